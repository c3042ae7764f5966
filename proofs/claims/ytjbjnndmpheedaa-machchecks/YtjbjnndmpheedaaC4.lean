/-
  The contracts of the reference's 'edgeFault' (P1.8) and 'has'.
  The contract of the reference's 'makers' (P1.9).
  The contract of the reference's 'bigFault' (P1.3).
-/
import Derived.Test.YtjbjnndmpheedaaC2
import Derived.Test.YtjbjnndmpheedaaA3
import Derived.Deep.DeepCutAuto
import Derived.Deep.CutBlock
import Derived.Test.YtjbjnndmpheedaaA4
import Derived.Test.YtjbjnndmpheedaaC1
import Derived.Test.YtjbjnndmpheedaaA1
namespace Go.Proofs.Ytjbjnndmpheedaa
open Go.RowKit
set_option linter.unusedVariables false

theorem argsErr_drop (values : List Int) (l1 l2 : List Int) (k : Nat) (h1 : k < l1.length) (h2 : k < l2.length) : argsErr values (l1.drop k) (l2.drop k) = if isValueB values.length l1[k] = false then 2 else if isValueB values.length l2[k] = false ∨ ¬ classAt values l1[k] = classAt values l2[k] then 17 else argsErr values (l1.drop (k + 1)) (l2.drop (k + 1)) := by
  rw [List.drop_eq_getElem_cons h1, List.drop_eq_getElem_cons h2, argsErr]

set_option maxRecDepth 4000 in
set_option maxHeartbeats 16000000 in
theorem edgeFault_is (values : List Int) (av : Option Addr) (cv : Nat) (blocks : List Blk) (ab : Option Addr) (cb : Nat) (e : Edg) (aa : Option Addr) (ca : Nat) (res : Int) (hres : edgeErr values blocks e = res) (w : World) (hv : SlOf w 1 RInt (.slice av values.length cv) values)
    (hbl : SlOf w 3 (RBlk w) (.slice ab blocks.length cb) blocks) (ha : SlOf w 1 RInt (.slice aa e.args.length ca) e.args) :
    Calls Try.prog 57 #[.agg #[.slice av values.length cv, .slice ab blocks.length cb], .agg #[.int .i64 e.block, .slice aa e.args.length ca]] w fun e w' => e = .returned (.int .i64 res) ∧ Below w.heap.size w w' := by
  obtain ⟨_, _, _, lv⟩ := hv.out
  have lv0 := lv
  obtain ⟨_, _, _, lb⟩ := hbl.out
  obtain ⟨_, _, _, la⟩ := ha.out
  unfold longest at lv lb la
  obtain ⟨W, hW⟩ : ∃ W, W = (w.alloc (.cells #[.slice av values.length cv, .slice ab blocks.length cb] 25)).alloc (.cells #[.int .i64 e.block, .slice aa e.args.length ca] 106) := ⟨_, rfl⟩
  have hbw : Below w.heap.size w W := by rw [hW]; exact ((Below.refl _ _).alloc (Nat.le_refl _) _).alloc (by simp) _
  have zW : w.heap.size + 1 < W.heap.size := by rw [hW]; simp
  obtain ⟨t0, t1⟩ := two_at w #[.slice av values.length cv, .slice ab blocks.length cb] #[.int .i64 e.block, .slice aa e.args.length ca] 25 106
  have f0_0 : W.cell? ⟨w.heap.size, 0, none⟩ = some (.slice av values.length cv) := by rw [hW]; exact t0 0
  have f0_1 : W.cell? ⟨w.heap.size, 1, none⟩ = some (.slice ab blocks.length cb) := by rw [hW]; exact t0 1
  have e1_0 : W.cell? ⟨w.heap.size + 1, 0, none⟩ = some (.int .i64 e.block) := by rw [hW]; exact t1 0
  have e1_1 : W.cell? ⟨w.heap.size + 1, 1, none⟩ = some (.slice aa e.args.length ca) := by rw [hW]; exact t1 1
  have HS : Hid (∀ w', Below W.heap.size W w' → (fun w' => w'.cell? ⟨w.heap.size, 0, none⟩ = some (.slice av values.length cv) ∧ w'.cell? ⟨w.heap.size, 1, none⟩ = some (.slice ab blocks.length cb) ∧ w'.cell? ⟨w.heap.size + 1, 0, none⟩ = some (.int .i64 e.block) ∧ w'.cell? ⟨w.heap.size + 1, 1, none⟩ = some (.slice aa e.args.length ca) ∧ Below W.heap.size W w') w') := fun w' hh => ⟨(hh.cell (by simp; omega)).trans f0_0, (hh.cell (by simp; omega)).trans f0_1, (hh.cell (by simp; omega)).trans e1_0, (hh.cell (by simp; omega)).trans e1_1, hh⟩
  have HW : Hid (W = (w.alloc (.cells #[.slice av values.length cv, .slice ab blocks.length cb] 25)).alloc (.cells #[.int .i64 e.block, .slice aa e.args.length ca] 106)) := hW
  clear hW t0 t1
  unfold edgeErr at hres
  by_cases hb : e.block ≤ 0 ∨ (blocks.length : Int) ≤ e.block
  · rw [if_pos hb] at hres
    subst hres
    have hi : inB e.block 1 ((blocks.length : Int) - 1) = false := by simp [inB]; omega
    clear hb
    go_enter Try.func57, Try.ntmps57
    go_upto_region 1 with fail
    rw [← HW.out]
    go_wp2_with fail
    refine (in_is _ _ _ _ hi _).mono ?_
    rintro e W ⟨rfl, rfl⟩
    go_wp2
    go_ret
    exact ⟨rfl, hbw⟩
  rw [if_neg hb] at hres
  have n0 : 0 ≤ e.block := by omega
  have n1 : e.block < (blocks.length : Int) := by omega
  have hi : inB e.block 1 ((blocks.length : Int) - 1) = true := by simp [inB]; omega
  have hlt0 : e.block.toNat < blocks.length := by omega
  rw [List.getElem?_eq_getElem hlt0] at hres
  simp only at hres
  obtain ⟨b3, off3, cs, rfl, hcl, ⟨vp, vi, ve, rfl, hp, _, _⟩, hc⟩ := (hbl.below hbw (RBlk.below hbw)).at e.block.toNat hlt0
  obtain ⟨ap, cp, rfl, lp⟩ := hp.out
  have d0 := hc 0 (by simp)
  simp at d0
  unfold longest at lp
  clear hc hcl hb
  generalize blocks[e.block.toNat] = bk at *
  have HRES : Hid ((if e.args.length = bk.params.length then argsErr values e.args bk.params else 4) = res) := hres
  clear hres
  go_enter Try.func57, Try.ntmps57
  go_upto_region 1 with fail
  rw [← HW.out]
  go_wp2_with fail
  refine (in_is _ _ _ _ hi _).mono ?_
  rintro e W ⟨rfl, rfl⟩
  go_upto_region 4 with fail
  clear d0 n0 n1 hlt0 hi
  by_cases hle : e.args.length = bk.params.length
  · have HR2 : Hid (argsErr values e.args bk.params = res) := by show _ = _; rw [← HRES.out, if_pos hle]
    have ql : ((bk.params.length : Int) != (e.args.length : Int)) = false := by simp [hle]
    have HLE : Hid (e.args.length = bk.params.length) := hle
    clear hle HRES
    go_wp2
    go_loopw [6] (fun v wr => ∃ k : Nat, k ≤ bk.params.length ∧ v = .int .i64 k ∧ Below W.heap.size W wr ∧ Hid (argsErr values (e.args.drop k) (bk.params.drop k) = res)) (fun v _ => bk.params.length - (intOf v).toNat)
    case atStart => exact ⟨0, Nat.zero_le _, rfl, Below.refl _ _, HR2.out⟩
    case round =>
      obtain ⟨k, hk, rfl, hbr, HK⟩ := hrel
      have hbwr : Below w.heap.size w wr := hbw.trans (hbr.mono hbw.size)
      have zr := hbr.size
      obtain ⟨f0_0', f0_1', e1_0', e1_1', _⟩ := HS.out _ hbr
      clear f0_0 f0_1 e1_0 e1_1
      by_cases hlt : k < bk.params.length
      · have hlta : k < e.args.length := by have := HLE.out; omega
        have hkI : (k : Int) < (e.args.length : Int) := by omega
        obtain ⟨ba, offa, rfl, hba, a0⟩ := int_cell (ha.below hbwr fun _ _ h => h) k hlta
        obtain ⟨bp, offp, rfl, hbp, p0⟩ := int_cell (hp.below hbr fun _ _ h => h) k hlt
        have HD := argsErr_drop values e.args bk.params k hlta hlt
        have hbd : Below wr.heap.size wr wr.drew := (Below.refl _ _).drew
        have HSk : Hid (∀ w', Below wr.heap.size wr w' → (fun w' => w'.cell? ⟨w.heap.size, 0, none⟩ = some (.slice av values.length cv) ∧ w'.cell? ⟨w.heap.size, 1, none⟩ = some (.slice (some ⟨b3, off3, none⟩) blocks.length cb) ∧ w'.cell? ⟨w.heap.size + 1, 0, none⟩ = some (.int .i64 e.block) ∧ w'.cell? ⟨w.heap.size + 1, 1, none⟩ = some (.slice (some ⟨ba, offa, none⟩) e.args.length ca) ∧ w'.cell? ⟨ba, offa + k, none⟩ = some (.int .i64 e.args[k]) ∧ w'.cell? ⟨bp, offp + k, none⟩ = some (.int .i64 bk.params[k]) ∧ Below wr.heap.size wr w') w') := fun w' hh => ⟨(hh.cell (by simp; omega)).trans f0_0', (hh.cell (by simp; omega)).trans f0_1', (hh.cell (by simp; omega)).trans e1_0', (hh.cell (by simp; omega)).trans e1_1', (hh.cell (by simp; omega)).trans a0, (hh.cell (by simp; omega)).trans p0, hh⟩
        cases hav : isValueB values.length e.args[k]
        · have H : Hid (2 = res) := by show _ = _; rw [← HK.out, HD, if_pos hav]
          clear HK HD
          go_upto_region 9 with fail
          refine wp_region_X (fun w' => w'.cell? ⟨w.heap.size, 0, none⟩ = some (.slice av values.length cv) ∧ w'.cell? ⟨w.heap.size, 1, none⟩ = some (.slice (some ⟨b3, off3, none⟩) blocks.length cb) ∧ w'.cell? ⟨w.heap.size + 1, 0, none⟩ = some (.int .i64 e.block) ∧ w'.cell? ⟨w.heap.size + 1, 1, none⟩ = some (.slice (some ⟨ba, offa, none⟩) e.args.length ca) ∧ w'.cell? ⟨ba, offa + k, none⟩ = some (.int .i64 e.args[k]) ∧ w'.cell? ⟨bp, offp + k, none⟩ = some (.int .i64 bk.params[k]) ∧ Below wr.heap.size wr w') 99 (by kernel_rfl) (HSk.out _ hbd) (fun hHeld => ?_)
          refine wpXt 0 rfl (v := ?_) (by kernel_rfl) (fun _ _ _ h => h) (by rfl) ?_ hHeld ?_
          rotate_left
          · intro w' hSw
            go_simp <;> with_reducible rfl
          try simp only [Act.put, List.setIfInBounds_toArray, List.set_cons_zero, List.set_cons_succ]
          refine wpXt 1 rfl (v := ?_) (by kernel_rfl) (fun _ _ _ h => h) (by rfl) ?_ hHeld ?_
          rotate_left
          · intro w' hSw
            go_simp <;> with_reducible rfl
          try simp only [Act.put, List.setIfInBounds_toArray, List.set_cons_zero, List.set_cons_succ]
          refine wpXt 2 rfl (v := ?_) (by kernel_rfl) (fun _ _ _ h => h) (by rfl) ?_ hHeld ?_
          rotate_left
          · intro w' hSw
            go_simp <;> with_reducible rfl
          try simp only [Act.put, List.setIfInBounds_toArray, List.set_cons_zero, List.set_cons_succ]
          refine wpXt 3 rfl (v := ?_) (by kernel_rfl) (fun _ _ _ h => h) (by rfl) ?_ hHeld ?_
          rotate_left
          · intro w' hSw
            go_simp <;> with_reducible rfl
          try simp only [Act.put, List.setIfInBounds_toArray, List.set_cons_zero, List.set_cons_succ]
          refine wpXt 4 rfl (v := ?_) (by kernel_rfl) (fun _ _ _ h => h) (by rfl) ?_ hHeld ?_
          rotate_left
          · intro w' hSw
            go_simp <;> with_reducible rfl
          try simp only [Act.put, List.setIfInBounds_toArray, List.set_cons_zero, List.set_cons_succ]
          refine wpXt 5 rfl (v := ?_) (by kernel_rfl) (fun _ _ _ h => h) (by rfl) ?_ hHeld ?_
          rotate_left
          · intro w' hSw
            go_simp <;> with_reducible rfl
          try simp only [Act.put, List.setIfInBounds_toArray, List.set_cons_zero, List.set_cons_succ]
          refine wpXs 6 rfl (by kernel_rfl) (fun K hK => ?_)
          go_simp
          refine (valueMay_b _ _ _ _ _ _ hav _ lv0).mono ?_
          rintro e wn ⟨rfl, hwn0⟩
          have hwn : Below wr.heap.size wr wn := hbd.trans (hwn0.mono hbd.size)
          refine hK.out _ _ (HSk.out _ hwn) (fun hHeld => ?_)
          clear hK K
          try simp only [Act.put, List.setIfInBounds_toArray, List.set_cons_zero, List.set_cons_succ]
          refine wpXs 7 rfl (by kernel_rfl) (fun K hK => ?_)
          go_simp
          refine hK.out _ _ (HSk.out _ hwn) (fun hHeld => ?_)
          clear hK K
          try simp only [Act.put, List.setIfInBounds_toArray, List.set_cons_zero, List.set_cons_succ]
          refine wpAnyX_done (by kernel_rfl) ?_ _
          go_wp2
          go_ret
          exact ⟨ret_int H.out, hbwr.trans (hwn.mono hbwr.size)⟩
        · rw [if_neg (by simp [hav])] at HD
          have HD' : Hid (argsErr values (e.args.drop k) (bk.params.drop k) = if isValueB values.length bk.params[k] = false ∨ ¬ classAt values e.args[k] = classAt values bk.params[k] then 17 else argsErr values (e.args.drop (k + 1)) (bk.params.drop (k + 1))) := HD
          clear HD
          go_upto_region 9 with fail
          refine wp_region_X (fun w' => w'.cell? ⟨w.heap.size, 0, none⟩ = some (.slice av values.length cv) ∧ w'.cell? ⟨w.heap.size, 1, none⟩ = some (.slice (some ⟨b3, off3, none⟩) blocks.length cb) ∧ w'.cell? ⟨w.heap.size + 1, 0, none⟩ = some (.int .i64 e.block) ∧ w'.cell? ⟨w.heap.size + 1, 1, none⟩ = some (.slice (some ⟨ba, offa, none⟩) e.args.length ca) ∧ w'.cell? ⟨ba, offa + k, none⟩ = some (.int .i64 e.args[k]) ∧ w'.cell? ⟨bp, offp + k, none⟩ = some (.int .i64 bk.params[k]) ∧ Below wr.heap.size wr w') 99 (by kernel_rfl) (HSk.out _ hbd) (fun hHeld => ?_)
          refine wpXt 0 rfl (v := ?_) (by kernel_rfl) (fun _ _ _ h => h) (by rfl) ?_ hHeld ?_
          rotate_left
          · intro w' hSw
            go_simp <;> with_reducible rfl
          try simp only [Act.put, List.setIfInBounds_toArray, List.set_cons_zero, List.set_cons_succ]
          refine wpXt 1 rfl (v := ?_) (by kernel_rfl) (fun _ _ _ h => h) (by rfl) ?_ hHeld ?_
          rotate_left
          · intro w' hSw
            go_simp <;> with_reducible rfl
          try simp only [Act.put, List.setIfInBounds_toArray, List.set_cons_zero, List.set_cons_succ]
          refine wpXt 2 rfl (v := ?_) (by kernel_rfl) (fun _ _ _ h => h) (by rfl) ?_ hHeld ?_
          rotate_left
          · intro w' hSw
            go_simp <;> with_reducible rfl
          try simp only [Act.put, List.setIfInBounds_toArray, List.set_cons_zero, List.set_cons_succ]
          refine wpXt 3 rfl (v := ?_) (by kernel_rfl) (fun _ _ _ h => h) (by rfl) ?_ hHeld ?_
          rotate_left
          · intro w' hSw
            go_simp <;> with_reducible rfl
          try simp only [Act.put, List.setIfInBounds_toArray, List.set_cons_zero, List.set_cons_succ]
          refine wpXt 4 rfl (v := ?_) (by kernel_rfl) (fun _ _ _ h => h) (by rfl) ?_ hHeld ?_
          rotate_left
          · intro w' hSw
            go_simp <;> with_reducible rfl
          try simp only [Act.put, List.setIfInBounds_toArray, List.set_cons_zero, List.set_cons_succ]
          refine wpXt 5 rfl (v := ?_) (by kernel_rfl) (fun _ _ _ h => h) (by rfl) ?_ hHeld ?_
          rotate_left
          · intro w' hSw
            go_simp <;> with_reducible rfl
          try simp only [Act.put, List.setIfInBounds_toArray, List.set_cons_zero, List.set_cons_succ]
          refine wpXs 6 rfl (by kernel_rfl) (fun K hK => ?_)
          go_simp
          refine (valueMay_b _ _ _ _ _ _ hav _ lv0).mono ?_
          rintro e wn ⟨rfl, hwn0⟩
          have hwn : Below wr.heap.size wr wn := hbd.trans (hwn0.mono hbd.size)
          refine hK.out _ _ (HSk.out _ hwn) (fun hHeld => ?_)
          clear hK K
          try simp only [Act.put, List.setIfInBounds_toArray, List.set_cons_zero, List.set_cons_succ]
          refine wpXs 7 rfl (by kernel_rfl) (fun K hK => ?_)
          go_simp
          refine hK.out _ _ (HSk.out _ hwn) (fun hHeld => ?_)
          clear hK K
          try simp only [Act.put, List.setIfInBounds_toArray, List.set_cons_zero, List.set_cons_succ]
          refine wpAnyX_done (by kernel_rfl) ?_ _
          have hwnd : Below wr.heap.size wr wn.drew := hwn.drew
          cases hpv : isValueB values.length bk.params[k]
          · have H : Hid (17 = res) := by show _ = _; rw [← HK.out, HD'.out, if_pos (Or.inl hpv)]
            go_upto_region 11 with fail
            refine wp_region_X (fun w' => w'.cell? ⟨w.heap.size, 0, none⟩ = some (.slice av values.length cv) ∧ w'.cell? ⟨w.heap.size, 1, none⟩ = some (.slice (some ⟨b3, off3, none⟩) blocks.length cb) ∧ w'.cell? ⟨w.heap.size + 1, 0, none⟩ = some (.int .i64 e.block) ∧ w'.cell? ⟨w.heap.size + 1, 1, none⟩ = some (.slice (some ⟨ba, offa, none⟩) e.args.length ca) ∧ w'.cell? ⟨ba, offa + k, none⟩ = some (.int .i64 e.args[k]) ∧ w'.cell? ⟨bp, offp + k, none⟩ = some (.int .i64 bk.params[k]) ∧ Below wr.heap.size wr w') 99 (by kernel_rfl) (HSk.out _ hwnd) (fun hHeld => ?_)
            refine wpXt 0 rfl (v := ?_) (by kernel_rfl) (fun _ _ _ h => h) (by rfl) ?_ hHeld ?_
            rotate_left
            · intro w' hSw
              go_simp <;> with_reducible rfl
            try simp only [Act.put, List.setIfInBounds_toArray, List.set_cons_zero, List.set_cons_succ]
            refine wpXt 1 rfl (v := ?_) (by kernel_rfl) (fun _ _ _ h => h) (by rfl) ?_ hHeld ?_
            rotate_left
            · intro w' hSw
              go_simp <;> with_reducible rfl
            try simp only [Act.put, List.setIfInBounds_toArray, List.set_cons_zero, List.set_cons_succ]
            refine wpXt 2 rfl (v := ?_) (by kernel_rfl) (fun _ _ _ h => h) (by rfl) ?_ hHeld ?_
            rotate_left
            · intro w' hSw
              go_simp <;> with_reducible rfl
            try simp only [Act.put, List.setIfInBounds_toArray, List.set_cons_zero, List.set_cons_succ]
            refine wpXt 3 rfl (v := ?_) (by kernel_rfl) (fun _ _ _ h => h) (by rfl) ?_ hHeld ?_
            rotate_left
            · intro w' hSw
              go_simp <;> with_reducible rfl
            try simp only [Act.put, List.setIfInBounds_toArray, List.set_cons_zero, List.set_cons_succ]
            refine wpXt 4 rfl (v := ?_) (by kernel_rfl) (fun _ _ _ h => h) (by rfl) ?_ hHeld ?_
            rotate_left
            · intro w' hSw
              go_simp <;> with_reducible rfl
            try simp only [Act.put, List.setIfInBounds_toArray, List.set_cons_zero, List.set_cons_succ]
            refine wpXs 5 rfl (by kernel_rfl) (fun K hK => ?_)
            go_simp
            refine (valueMay_b _ _ _ _ _ _ hpv _ lv0).mono ?_
            rintro e wq ⟨rfl, hwq0⟩
            have hwq : Below wr.heap.size wr wq := hwnd.trans (hwq0.mono hwnd.size)
            refine hK.out _ _ (HSk.out _ hwq) (fun hHeld => ?_)
            clear hK K
            try simp only [Act.put, List.setIfInBounds_toArray, List.set_cons_zero, List.set_cons_succ]
            refine wpXt 6 rfl (v := ?_) (by kernel_rfl) (fun _ _ _ h => h) (by rfl) ?_ hHeld ?_
            rotate_left
            · intro w' hSw
              go_simp <;> with_reducible rfl
            try simp only [Act.put, List.setIfInBounds_toArray, List.set_cons_zero, List.set_cons_succ]
            refine wpXt 7 rfl (v := ?_) (by kernel_rfl) (fun _ _ _ h => h) (by rfl) ?_ hHeld ?_
            rotate_left
            · intro w' hSw
              go_simp <;> with_reducible rfl
            try simp only [Act.put, List.setIfInBounds_toArray, List.set_cons_zero, List.set_cons_succ]
            refine wpXk 8 rfl (by kernel_rfl) (fun _ _ _ h => h) (by rfl) hHeld ?_
            try simp only [Act.put, List.setIfInBounds_toArray, List.set_cons_zero, List.set_cons_succ]
            refine wpXk 9 rfl (by kernel_rfl) (fun _ _ _ h => h) (by rfl) hHeld ?_
            try simp only [Act.put, List.setIfInBounds_toArray, List.set_cons_zero, List.set_cons_succ]
            refine wpXk 10 rfl (by kernel_rfl) (fun _ _ _ h => h) (by rfl) hHeld ?_
            try simp only [Act.put, List.setIfInBounds_toArray, List.set_cons_zero, List.set_cons_succ]
            refine wpXk 11 rfl (by kernel_rfl) (fun _ _ _ h => h) (by rfl) hHeld ?_
            try simp only [Act.put, List.setIfInBounds_toArray, List.set_cons_zero, List.set_cons_succ]
            refine wpXk 12 rfl (by kernel_rfl) (fun _ _ _ h => h) (by rfl) hHeld ?_
            try simp only [Act.put, List.setIfInBounds_toArray, List.set_cons_zero, List.set_cons_succ]
            refine wpXk 13 rfl (by kernel_rfl) (fun _ _ _ h => h) (by rfl) hHeld ?_
            try simp only [Act.put, List.setIfInBounds_toArray, List.set_cons_zero, List.set_cons_succ]
            refine wpXk 14 rfl (by kernel_rfl) (fun _ _ _ h => h) (by rfl) hHeld ?_
            try simp only [Act.put, List.setIfInBounds_toArray, List.set_cons_zero, List.set_cons_succ]
            refine wpXk 15 rfl (by kernel_rfl) (fun _ _ _ h => h) (by rfl) hHeld ?_
            try simp only [Act.put, List.setIfInBounds_toArray, List.set_cons_zero, List.set_cons_succ]
            refine wpXk 16 rfl (by kernel_rfl) (fun _ _ _ h => h) (by rfl) hHeld ?_
            try simp only [Act.put, List.setIfInBounds_toArray, List.set_cons_zero, List.set_cons_succ]
            refine wpXk 17 rfl (by kernel_rfl) (fun _ _ _ h => h) (by rfl) hHeld ?_
            try simp only [Act.put, List.setIfInBounds_toArray, List.set_cons_zero, List.set_cons_succ]
            refine wpXk 18 rfl (by kernel_rfl) (fun _ _ _ h => h) (by rfl) hHeld ?_
            try simp only [Act.put, List.setIfInBounds_toArray, List.set_cons_zero, List.set_cons_succ]
            refine wpXk 19 rfl (by kernel_rfl) (fun _ _ _ h => h) (by rfl) hHeld ?_
            try simp only [Act.put, List.setIfInBounds_toArray, List.set_cons_zero, List.set_cons_succ]
            refine wpXk 20 rfl (by kernel_rfl) (fun _ _ _ h => h) (by rfl) hHeld ?_
            try simp only [Act.put, List.setIfInBounds_toArray, List.set_cons_zero, List.set_cons_succ]
            refine wpXk 21 rfl (by kernel_rfl) (fun _ _ _ h => h) (by rfl) hHeld ?_
            try simp only [Act.put, List.setIfInBounds_toArray, List.set_cons_zero, List.set_cons_succ]
            refine wpXs 22 rfl (by kernel_rfl) (fun K hK => ?_)
            go_simp
            refine hK.out _ _ (HSk.out _ hwq) (fun hHeld => ?_)
            clear hK K
            try simp only [Act.put, List.setIfInBounds_toArray, List.set_cons_zero, List.set_cons_succ]
            refine wpAnyX_done (by kernel_rfl) ?_ _
            go_wp2
            go_ret
            exact ⟨ret_int H.out, hbwr.trans (hwq.mono hbwr.size)⟩
          · obtain ⟨ca', hca'⟩ : ∃ ca', classAt values e.args[k] = ca' := ⟨_, rfl⟩
            obtain ⟨cp', hcp'⟩ : ∃ cp', classAt values bk.params[k] = cp' := ⟨_, rfl⟩
            have HCA : Hid (classAt values e.args[k] = ca') := hca'
            have HCP : Hid (classAt values bk.params[k] = cp') := hcp'
            clear hca' hcp'
            by_cases hcc : ca' = cp'
            · have H : Hid (argsErr values (e.args.drop (k + 1)) (bk.params.drop (k + 1)) = res) := by show _ = _; rw [← HK.out, HD'.out, if_neg]; rw [HCA.out, HCP.out, hpv]; simp [hcc]
              have qc : (cp' != ca') = false := by simp [hcc]
              clear hcc
              go_upto_region 11 with fail
              refine wp_region_X (fun w' => w'.cell? ⟨w.heap.size, 0, none⟩ = some (.slice av values.length cv) ∧ w'.cell? ⟨w.heap.size, 1, none⟩ = some (.slice (some ⟨b3, off3, none⟩) blocks.length cb) ∧ w'.cell? ⟨w.heap.size + 1, 0, none⟩ = some (.int .i64 e.block) ∧ w'.cell? ⟨w.heap.size + 1, 1, none⟩ = some (.slice (some ⟨ba, offa, none⟩) e.args.length ca) ∧ w'.cell? ⟨ba, offa + k, none⟩ = some (.int .i64 e.args[k]) ∧ w'.cell? ⟨bp, offp + k, none⟩ = some (.int .i64 bk.params[k]) ∧ Below wr.heap.size wr w') 99 (by kernel_rfl) (HSk.out _ hwnd) (fun hHeld => ?_)
              refine wpXt 0 rfl (v := ?_) (by kernel_rfl) (fun _ _ _ h => h) (by rfl) ?_ hHeld ?_
              rotate_left
              · intro w' hSw
                go_simp <;> with_reducible rfl
              try simp only [Act.put, List.setIfInBounds_toArray, List.set_cons_zero, List.set_cons_succ]
              refine wpXt 1 rfl (v := ?_) (by kernel_rfl) (fun _ _ _ h => h) (by rfl) ?_ hHeld ?_
              rotate_left
              · intro w' hSw
                go_simp <;> with_reducible rfl
              try simp only [Act.put, List.setIfInBounds_toArray, List.set_cons_zero, List.set_cons_succ]
              refine wpXt 2 rfl (v := ?_) (by kernel_rfl) (fun _ _ _ h => h) (by rfl) ?_ hHeld ?_
              rotate_left
              · intro w' hSw
                go_simp <;> with_reducible rfl
              try simp only [Act.put, List.setIfInBounds_toArray, List.set_cons_zero, List.set_cons_succ]
              refine wpXt 3 rfl (v := ?_) (by kernel_rfl) (fun _ _ _ h => h) (by rfl) ?_ hHeld ?_
              rotate_left
              · intro w' hSw
                go_simp <;> with_reducible rfl
              try simp only [Act.put, List.setIfInBounds_toArray, List.set_cons_zero, List.set_cons_succ]
              refine wpXt 4 rfl (v := ?_) (by kernel_rfl) (fun _ _ _ h => h) (by rfl) ?_ hHeld ?_
              rotate_left
              · intro w' hSw
                go_simp <;> with_reducible rfl
              try simp only [Act.put, List.setIfInBounds_toArray, List.set_cons_zero, List.set_cons_succ]
              refine wpXs 5 rfl (by kernel_rfl) (fun K hK => ?_)
              go_simp
              refine (valueMay_b _ _ _ _ _ _ hpv _ lv0).mono ?_
              rintro e wq ⟨rfl, hwq0⟩
              have hwq : Below wr.heap.size wr wq := hwnd.trans (hwq0.mono hwnd.size)
              refine hK.out _ _ (HSk.out _ hwq) (fun hHeld => ?_)
              clear hK K
              try simp only [Act.put, List.setIfInBounds_toArray, List.set_cons_zero, List.set_cons_succ]
              refine wpXt 6 rfl (v := ?_) (by kernel_rfl) (fun _ _ _ h => h) (by rfl) ?_ hHeld ?_
              rotate_left
              · intro w' hSw
                go_simp <;> with_reducible rfl
              try simp only [Act.put, List.setIfInBounds_toArray, List.set_cons_zero, List.set_cons_succ]
              refine wpXt 7 rfl (v := ?_) (by kernel_rfl) (fun _ _ _ h => h) (by rfl) ?_ hHeld ?_
              rotate_left
              · intro w' hSw
                go_simp <;> with_reducible rfl
              try simp only [Act.put, List.setIfInBounds_toArray, List.set_cons_zero, List.set_cons_succ]
              refine wpXt 8 rfl (v := ?_) (by kernel_rfl) (fun _ _ _ h => h) (by rfl) ?_ hHeld ?_
              rotate_left
              · intro w' hSw
                go_simp <;> with_reducible rfl
              try simp only [Act.put, List.setIfInBounds_toArray, List.set_cons_zero, List.set_cons_succ]
              refine wpXt 9 rfl (v := ?_) (by kernel_rfl) (fun _ _ _ h => h) (by rfl) ?_ hHeld ?_
              rotate_left
              · intro w' hSw
                go_simp <;> with_reducible rfl
              try simp only [Act.put, List.setIfInBounds_toArray, List.set_cons_zero, List.set_cons_succ]
              refine wpXt 10 rfl (v := ?_) (by kernel_rfl) (fun _ _ _ h => h) (by rfl) ?_ hHeld ?_
              rotate_left
              · intro w' hSw
                go_simp <;> with_reducible rfl
              try simp only [Act.put, List.setIfInBounds_toArray, List.set_cons_zero, List.set_cons_succ]
              refine wpXt 11 rfl (v := ?_) (by kernel_rfl) (fun _ _ _ h => h) (by rfl) ?_ hHeld ?_
              rotate_left
              · intro w' hSw
                go_simp <;> with_reducible rfl
              try simp only [Act.put, List.setIfInBounds_toArray, List.set_cons_zero, List.set_cons_succ]
              refine wpXt 12 rfl (v := ?_) (by kernel_rfl) (fun _ _ _ h => h) (by rfl) ?_ hHeld ?_
              rotate_left
              · intro w' hSw
                go_simp <;> with_reducible rfl
              try simp only [Act.put, List.setIfInBounds_toArray, List.set_cons_zero, List.set_cons_succ]
              refine wpXt 14 rfl (v := ?_) (by kernel_rfl) (fun _ _ _ h => h) (by rfl) ?_ hHeld ?_
              rotate_left
              · intro w' hSw
                go_simp <;> with_reducible rfl
              try simp only [Act.put, List.setIfInBounds_toArray, List.set_cons_zero, List.set_cons_succ]
              refine wpXt 15 rfl (v := ?_) (by kernel_rfl) (fun _ _ _ h => h) (by rfl) ?_ hHeld ?_
              rotate_left
              · intro w' hSw
                go_simp <;> with_reducible rfl
              try simp only [Act.put, List.setIfInBounds_toArray, List.set_cons_zero, List.set_cons_succ]
              refine wpXt 16 rfl (v := ?_) (by kernel_rfl) (fun _ _ _ h => h) (by rfl) ?_ hHeld ?_
              rotate_left
              · intro w' hSw
                go_simp <;> with_reducible rfl
              try simp only [Act.put, List.setIfInBounds_toArray, List.set_cons_zero, List.set_cons_succ]
              refine wpXt 17 rfl (v := ?_) (by kernel_rfl) (fun _ _ _ h => h) (by rfl) ?_ hHeld ?_
              rotate_left
              · intro w' hSw
                go_simp <;> with_reducible rfl
              try simp only [Act.put, List.setIfInBounds_toArray, List.set_cons_zero, List.set_cons_succ]
              refine wpXt 18 rfl (v := ?_) (by kernel_rfl) (fun _ _ _ h => h) (by rfl) ?_ hHeld ?_
              rotate_left
              · intro w' hSw
                go_simp <;> with_reducible rfl
              try simp only [Act.put, List.setIfInBounds_toArray, List.set_cons_zero, List.set_cons_succ]
              refine wpXt 19 rfl (v := ?_) (by kernel_rfl) (fun _ _ _ h => h) (by rfl) ?_ hHeld ?_
              rotate_left
              · intro w' hSw
                go_simp <;> with_reducible rfl
              try simp only [Act.put, List.setIfInBounds_toArray, List.set_cons_zero, List.set_cons_succ]
              refine wpXs 13 rfl (by kernel_rfl) (fun K hK => ?_)
              go_simp
              refine (classOf_b values _ _ _ _ _ HCP.out _ (hv.below (hbwr.trans (hwq.mono hbwr.size)) fun _ _ h => h) hpv).mono ?_
              rintro e wu ⟨rfl, hwu0⟩
              have hwu : Below wr.heap.size wr wu := hwq.trans (hwu0.mono hwq.size)
              refine hK.out _ _ (HSk.out _ hwu) (fun hHeld => ?_)
              clear hK K
              try simp only [Act.put, List.setIfInBounds_toArray, List.set_cons_zero, List.set_cons_succ]
              refine wpXs 20 rfl (by kernel_rfl) (fun K hK => ?_)
              go_simp
              refine (classOf_b values _ _ _ _ _ HCA.out _ (hv.below (hbwr.trans (hwu.mono hbwr.size)) fun _ _ h => h) hav).mono ?_
              rintro e wv ⟨rfl, hwv0⟩
              have hwv : Below wr.heap.size wr wv := hwu.trans (hwv0.mono hwu.size)
              refine hK.out _ _ (HSk.out _ hwv) (fun hHeld => ?_)
              clear hK K
              try simp only [Act.put, List.setIfInBounds_toArray, List.set_cons_zero, List.set_cons_succ]
              refine wpXt 21 rfl (v := ?_) (by kernel_rfl) (fun _ _ _ h => h) (by rfl) ?_ hHeld ?_
              rotate_left
              · intro w' hSw
                go_simp <;> with_reducible rfl
              try simp only [Act.put, List.setIfInBounds_toArray, List.set_cons_zero, List.set_cons_succ]
              refine wpXs 22 rfl (by kernel_rfl) (fun K hK => ?_)
              go_simp
              refine hK.out _ _ (HSk.out _ hwv) (fun hHeld => ?_)
              clear hK K
              try simp only [Act.put, List.setIfInBounds_toArray, List.set_cons_zero, List.set_cons_succ]
              refine wpAnyX_done (by kernel_rfl) ?_ _
              go_wp2
              go_roundw
              case rel => exact ⟨k + 1, by omega, by go_num, hbr.trans (hwv.mono hbr.size), H⟩
              case measure => simp [intOf]; omega
            · have H : Hid (17 = res) := by show _ = _; rw [← HK.out, HD'.out, if_pos]; right; rw [HCA.out, HCP.out]; exact hcc
              have qc : (cp' != ca') = true := by simpa using fun h => hcc h.symm
              clear hcc
              go_upto_region 11 with fail
              refine wp_region_X (fun w' => w'.cell? ⟨w.heap.size, 0, none⟩ = some (.slice av values.length cv) ∧ w'.cell? ⟨w.heap.size, 1, none⟩ = some (.slice (some ⟨b3, off3, none⟩) blocks.length cb) ∧ w'.cell? ⟨w.heap.size + 1, 0, none⟩ = some (.int .i64 e.block) ∧ w'.cell? ⟨w.heap.size + 1, 1, none⟩ = some (.slice (some ⟨ba, offa, none⟩) e.args.length ca) ∧ w'.cell? ⟨ba, offa + k, none⟩ = some (.int .i64 e.args[k]) ∧ w'.cell? ⟨bp, offp + k, none⟩ = some (.int .i64 bk.params[k]) ∧ Below wr.heap.size wr w') 99 (by kernel_rfl) (HSk.out _ hwnd) (fun hHeld => ?_)
              refine wpXt 0 rfl (v := ?_) (by kernel_rfl) (fun _ _ _ h => h) (by rfl) ?_ hHeld ?_
              rotate_left
              · intro w' hSw
                go_simp <;> with_reducible rfl
              try simp only [Act.put, List.setIfInBounds_toArray, List.set_cons_zero, List.set_cons_succ]
              refine wpXt 1 rfl (v := ?_) (by kernel_rfl) (fun _ _ _ h => h) (by rfl) ?_ hHeld ?_
              rotate_left
              · intro w' hSw
                go_simp <;> with_reducible rfl
              try simp only [Act.put, List.setIfInBounds_toArray, List.set_cons_zero, List.set_cons_succ]
              refine wpXt 2 rfl (v := ?_) (by kernel_rfl) (fun _ _ _ h => h) (by rfl) ?_ hHeld ?_
              rotate_left
              · intro w' hSw
                go_simp <;> with_reducible rfl
              try simp only [Act.put, List.setIfInBounds_toArray, List.set_cons_zero, List.set_cons_succ]
              refine wpXt 3 rfl (v := ?_) (by kernel_rfl) (fun _ _ _ h => h) (by rfl) ?_ hHeld ?_
              rotate_left
              · intro w' hSw
                go_simp <;> with_reducible rfl
              try simp only [Act.put, List.setIfInBounds_toArray, List.set_cons_zero, List.set_cons_succ]
              refine wpXt 4 rfl (v := ?_) (by kernel_rfl) (fun _ _ _ h => h) (by rfl) ?_ hHeld ?_
              rotate_left
              · intro w' hSw
                go_simp <;> with_reducible rfl
              try simp only [Act.put, List.setIfInBounds_toArray, List.set_cons_zero, List.set_cons_succ]
              refine wpXs 5 rfl (by kernel_rfl) (fun K hK => ?_)
              go_simp
              refine (valueMay_b _ _ _ _ _ _ hpv _ lv0).mono ?_
              rintro e wq ⟨rfl, hwq0⟩
              have hwq : Below wr.heap.size wr wq := hwnd.trans (hwq0.mono hwnd.size)
              refine hK.out _ _ (HSk.out _ hwq) (fun hHeld => ?_)
              clear hK K
              try simp only [Act.put, List.setIfInBounds_toArray, List.set_cons_zero, List.set_cons_succ]
              refine wpXt 6 rfl (v := ?_) (by kernel_rfl) (fun _ _ _ h => h) (by rfl) ?_ hHeld ?_
              rotate_left
              · intro w' hSw
                go_simp <;> with_reducible rfl
              try simp only [Act.put, List.setIfInBounds_toArray, List.set_cons_zero, List.set_cons_succ]
              refine wpXt 7 rfl (v := ?_) (by kernel_rfl) (fun _ _ _ h => h) (by rfl) ?_ hHeld ?_
              rotate_left
              · intro w' hSw
                go_simp <;> with_reducible rfl
              try simp only [Act.put, List.setIfInBounds_toArray, List.set_cons_zero, List.set_cons_succ]
              refine wpXt 8 rfl (v := ?_) (by kernel_rfl) (fun _ _ _ h => h) (by rfl) ?_ hHeld ?_
              rotate_left
              · intro w' hSw
                go_simp <;> with_reducible rfl
              try simp only [Act.put, List.setIfInBounds_toArray, List.set_cons_zero, List.set_cons_succ]
              refine wpXt 9 rfl (v := ?_) (by kernel_rfl) (fun _ _ _ h => h) (by rfl) ?_ hHeld ?_
              rotate_left
              · intro w' hSw
                go_simp <;> with_reducible rfl
              try simp only [Act.put, List.setIfInBounds_toArray, List.set_cons_zero, List.set_cons_succ]
              refine wpXt 10 rfl (v := ?_) (by kernel_rfl) (fun _ _ _ h => h) (by rfl) ?_ hHeld ?_
              rotate_left
              · intro w' hSw
                go_simp <;> with_reducible rfl
              try simp only [Act.put, List.setIfInBounds_toArray, List.set_cons_zero, List.set_cons_succ]
              refine wpXt 11 rfl (v := ?_) (by kernel_rfl) (fun _ _ _ h => h) (by rfl) ?_ hHeld ?_
              rotate_left
              · intro w' hSw
                go_simp <;> with_reducible rfl
              try simp only [Act.put, List.setIfInBounds_toArray, List.set_cons_zero, List.set_cons_succ]
              refine wpXt 12 rfl (v := ?_) (by kernel_rfl) (fun _ _ _ h => h) (by rfl) ?_ hHeld ?_
              rotate_left
              · intro w' hSw
                go_simp <;> with_reducible rfl
              try simp only [Act.put, List.setIfInBounds_toArray, List.set_cons_zero, List.set_cons_succ]
              refine wpXt 14 rfl (v := ?_) (by kernel_rfl) (fun _ _ _ h => h) (by rfl) ?_ hHeld ?_
              rotate_left
              · intro w' hSw
                go_simp <;> with_reducible rfl
              try simp only [Act.put, List.setIfInBounds_toArray, List.set_cons_zero, List.set_cons_succ]
              refine wpXt 15 rfl (v := ?_) (by kernel_rfl) (fun _ _ _ h => h) (by rfl) ?_ hHeld ?_
              rotate_left
              · intro w' hSw
                go_simp <;> with_reducible rfl
              try simp only [Act.put, List.setIfInBounds_toArray, List.set_cons_zero, List.set_cons_succ]
              refine wpXt 16 rfl (v := ?_) (by kernel_rfl) (fun _ _ _ h => h) (by rfl) ?_ hHeld ?_
              rotate_left
              · intro w' hSw
                go_simp <;> with_reducible rfl
              try simp only [Act.put, List.setIfInBounds_toArray, List.set_cons_zero, List.set_cons_succ]
              refine wpXt 17 rfl (v := ?_) (by kernel_rfl) (fun _ _ _ h => h) (by rfl) ?_ hHeld ?_
              rotate_left
              · intro w' hSw
                go_simp <;> with_reducible rfl
              try simp only [Act.put, List.setIfInBounds_toArray, List.set_cons_zero, List.set_cons_succ]
              refine wpXt 18 rfl (v := ?_) (by kernel_rfl) (fun _ _ _ h => h) (by rfl) ?_ hHeld ?_
              rotate_left
              · intro w' hSw
                go_simp <;> with_reducible rfl
              try simp only [Act.put, List.setIfInBounds_toArray, List.set_cons_zero, List.set_cons_succ]
              refine wpXt 19 rfl (v := ?_) (by kernel_rfl) (fun _ _ _ h => h) (by rfl) ?_ hHeld ?_
              rotate_left
              · intro w' hSw
                go_simp <;> with_reducible rfl
              try simp only [Act.put, List.setIfInBounds_toArray, List.set_cons_zero, List.set_cons_succ]
              refine wpXs 13 rfl (by kernel_rfl) (fun K hK => ?_)
              go_simp
              refine (classOf_b values _ _ _ _ _ HCP.out _ (hv.below (hbwr.trans (hwq.mono hbwr.size)) fun _ _ h => h) hpv).mono ?_
              rintro e wu ⟨rfl, hwu0⟩
              have hwu : Below wr.heap.size wr wu := hwq.trans (hwu0.mono hwq.size)
              refine hK.out _ _ (HSk.out _ hwu) (fun hHeld => ?_)
              clear hK K
              try simp only [Act.put, List.setIfInBounds_toArray, List.set_cons_zero, List.set_cons_succ]
              refine wpXs 20 rfl (by kernel_rfl) (fun K hK => ?_)
              go_simp
              refine (classOf_b values _ _ _ _ _ HCA.out _ (hv.below (hbwr.trans (hwu.mono hbwr.size)) fun _ _ h => h) hav).mono ?_
              rintro e wv ⟨rfl, hwv0⟩
              have hwv : Below wr.heap.size wr wv := hwu.trans (hwv0.mono hwu.size)
              refine hK.out _ _ (HSk.out _ hwv) (fun hHeld => ?_)
              clear hK K
              try simp only [Act.put, List.setIfInBounds_toArray, List.set_cons_zero, List.set_cons_succ]
              refine wpXt 21 rfl (v := ?_) (by kernel_rfl) (fun _ _ _ h => h) (by rfl) ?_ hHeld ?_
              rotate_left
              · intro w' hSw
                go_simp <;> with_reducible rfl
              try simp only [Act.put, List.setIfInBounds_toArray, List.set_cons_zero, List.set_cons_succ]
              refine wpXs 22 rfl (by kernel_rfl) (fun K hK => ?_)
              go_simp
              refine hK.out _ _ (HSk.out _ hwv) (fun hHeld => ?_)
              clear hK K
              try simp only [Act.put, List.setIfInBounds_toArray, List.set_cons_zero, List.set_cons_succ]
              refine wpAnyX_done (by kernel_rfl) ?_ _
              go_wp2
              go_ret
              exact ⟨ret_int H.out, hbwr.trans (hwv.mono hbwr.size)⟩
      · have H : Hid (0 = res) := by
          show _ = _
          rw [← HK.out, List.drop_of_length_le (l := bk.params) (by omega)]
          cases (e.args.drop k) <;> rfl
        clear HK
        go_wp2
        go_ret
        exact ⟨ret_int H.out, hbwr⟩
  · have H : Hid (4 = res) := by show _ = _; rw [← HRES.out, if_neg hle]
    have ql : ((bk.params.length : Int) != (e.args.length : Int)) = true := by simp; omega
    clear hle
    go_wp2
    go_ret
    exact ⟨ret_int H.out, hbw⟩

def hasI (l : List Int) (n : Int) : Bool := l.any (· == n)
theorem has_is (l : List Int) (al : Option Addr) (cl : Nat) (n : Int) (b : Bool) (hb : hasI l n = b) (w : World) (hl : SlOf w 1 RInt (.slice al l.length cl) l) :
    Calls Try.prog 60 #[.slice al l.length cl, .int .i64 n] w fun e w' => e = .returned (.bool b) ∧ Below w.heap.size w w' := by
  obtain ⟨_, _, _, la⟩ := hl.out
  unfold longest at la
  have HB : Hid (hasI l n = b) := hb
  clear hb
  go_enter Try.func60, Try.ntmps60
  go_wp2
  go_loop [5] (fun i => ∃ k : Nat, k ≤ l.length ∧ i = .int .i64 k ∧ Hid ((l.take k).any (· == n) = false)) (fun i => l.length - (intOf i).toNat)
  case atStart => exact ⟨0, Nat.zero_le _, rfl, rfl⟩
  case round =>
    obtain ⟨k, hk, rfl, HA⟩ := hrel
    by_cases hlt : k < l.length
    · obtain ⟨b2, off2, rfl, hb2, c0⟩ := int_cell hl k hlt
      cases q1 : (l[k] == n)
      · have H : Hid ((l.take (k + 1)).any (· == n) = false) := any_snoc _ _ _ hlt HA.out q1
        clear HA
        go_wp2
        go_round
        case rel => exact ⟨k + 1, by omega, by go_num, H⟩
        case measure => simp [intOf]; omega
      · have H : Hid (true = b) := by show _ = _; rw [← HB.out]; exact (any_at _ _ _ hlt q1).symm
        clear HA
        go_wp2
        go_ret
        exact ⟨ret_bool H.out, Below.refl _ _⟩
    · have H : Hid (false = b) := by show _ = _; rw [← HB.out]; exact (any_none _ _ k (by omega) HA.out).symm
      clear HA
      go_wp2
      go_ret
      exact ⟨ret_bool H.out, Below.refl _ _⟩
end Go.Proofs.Ytjbjnndmpheedaa
namespace Go.Proofs.Ytjbjnndmpheedaa
open Go.RowKit
set_option linter.unusedVariables false

theorem newsR {w : World} {ob : Obj} {cs : Array Value} {t : Nat} (h : ob = .cells cs t) : ∀ j u, cs.toList[j]? = some u → (w.alloc ob).cell? ((⟨w.heap.size, 0, none⟩ : Addr).add j) = some u := by
  subst h
  exact World.news_of_block (heap_alloc_new w _)
theorem infoR3 : (Try.prog.info? 3).map (fun i => (i.zero, i.size, i.bytes)) = some (some (.int .i64 0), 1, 8) := by kernel_rfl
def intsV (l : List Int) : List Value := l.map (.int .i64 ·)
/-- A row of numbers of one's own, and a block beside it. -/
def MkSt (W : World) (bB : Nat) (cs : Array Value) (wr : World) (v : Value) (l : List Int) : Prop :=
  wr.ownsRow W.heap.size 3 1 v l.length (intsV l) ∧ v.ownBlock ≠ some bB ∧ wr.heap[bB]? = some (.cells cs 75) ∧ Below W.heap.size W wr
theorem blk_ltR {wr : World} {bB : Nat} {o : Obj} (h : wr.heap[bB]? = some o) : bB < wr.heap.size := by
  rcases Nat.lt_or_ge bB wr.heap.size with h1 | h1
  · exact h1
  · rw [Array.getElem?_eq_none h1] at h; cases h
theorem MkSt.push {W : World} {bB : Nat} {cs : Array Value} {wr : World} {v : Value} {l : List Int} (h : MkSt W bB cs wr v l) (x : Int) {g cap : Nat} {wb : World}
    (hown : wb.ownsRow W.heap.size 3 1 (.slice (some ⟨g, 0, none⟩) (l.length + 1) cap) (l.length + 1) (intsV l ++ [.int .i64 x])) (hgrow : (wr.alloc (.cells #[.int .i64 x] 3)).grownBy wb v.ownBlock) (hat : v.ownBlock = some g ∨ g = wr.heap.size + 1) :
    MkSt W bB cs wb (.slice (some ⟨g, 0, none⟩) (l.length + 1) cap) (l ++ [x]) := by
  obtain ⟨h1, h2, h3, h4⟩ := h
  have hz := h4.size
  have hlt := blk_ltR h3
  refine ⟨?_, ?_, ?_, ?_⟩
  · rw [List.length_append]
    simpa [intsV] using hown
  · simp only [Value.ownBlock]
    intro e
    rcases hat with h | h
    · exact h2 (h.trans e)
    · simp at e; omega
  · rw [hgrow.block bB (by simp; omega) (fun e => h2 e.symm), Below.heap_alloc _ _ _ hlt]
    exact h3
  · refine (h4.alloc hz _).grown hgrow (by simp; omega) fun k hk => ?_
    exact (own_base h1 hk).1
theorem allM_drop (blocks : List Blk) (i : Nat) (h : i < blocks.length) : allM (blocks.drop i) = blocks[i].params ++ (insM blocks[i].instrs ++ allM (blocks.drop (i + 1))) := by
  have e : ∀ b r, allM (b :: r) = makersOf b ++ allM r := fun b r => by simp [allM]
  rw [List.drop_eq_getElem_cons h, e, makersOf, List.append_assoc]
theorem insM_drop (l : List Ins) (q : Nat) (h : q < l.length) : insM (l.drop q) = oprM l[q].operands ++ insM (l.drop (q + 1)) := by
  rw [List.drop_eq_getElem_cons h, insM_cons]
theorem oprM_drop (l : List Opr) (p : Nat) (h : p < l.length) : oprM (l.drop p) = (if l[p].kind = 2 then [l[p].value] else []) ++ oprM (l.drop (p + 1)) := by
  rw [List.drop_eq_getElem_cons h]
  by_cases hk : l[p].kind = 2
  · rw [if_pos hk, oprM_def _ _ hk]; rfl
  · rw [if_neg hk, oprM_use _ _ hk]; rfl

set_option maxRecDepth 8000 in
set_option maxHeartbeats 16000000 in
theorem rmakers_any (values : List Int) (av : Option Addr) (cv : Nat) (blocks : List Blk) (ab : Option Addr) (cb : Nat) (w : World) (hbl : SlOf w 3 (RBlk w) (.slice ab blocks.length cb) blocks) (hfar : (allM blocks).length ≤ 9000) :
    Calls Try.prog 58 #[.agg #[.slice av values.length cv, .slice ab blocks.length cb]] w fun e w' => ∃ v, e = .returned v ∧ w'.ownsRow (w.heap.size + 1) 3 1 v (allM blocks).length (intsV (allM blocks)) ∧ Below w.heap.size w w' := by
  obtain ⟨_, _, _, lb⟩ := hbl.out
  unfold longest at lb
  obtain ⟨W, hW⟩ : ∃ W, W = w.alloc (.cells #[.slice av values.length cv, .slice ab blocks.length cb] 25) := ⟨_, rfl⟩
  have hbw : Below w.heap.size w W := by rw [hW]; exact (Below.refl _ _).alloc (Nat.le_refl _) _
  have zW : w.heap.size < W.heap.size := by rw [hW]; simp
  have t0 := top_at w #[.slice av values.length cv, .slice ab blocks.length cb] 25
  have f0_0 : W.cell? ⟨w.heap.size, 0, none⟩ = some (.slice av values.length cv) := by rw [hW]; exact t0 0
  have f0_1 : W.cell? ⟨w.heap.size, 1, none⟩ = some (.slice ab blocks.length cb) := by rw [hW]; exact t0 1
  have HS : Hid (∀ w', Below W.heap.size W w' → (fun w' => w'.cell? ⟨w.heap.size, 0, none⟩ = some (.slice av values.length cv) ∧ w'.cell? ⟨w.heap.size, 1, none⟩ = some (.slice ab blocks.length cb) ∧ Below W.heap.size W w') w') := fun w' hh => ⟨(hh.cell (by simp; omega)).trans f0_0, (hh.cell (by simp; omega)).trans f0_1, hh⟩
  have HW : Hid (W = w.alloc (.cells #[.slice av values.length cv, .slice ab blocks.length cb] 25)) := hW
  clear hW t0
  have HZ : Hid (W.heap.size = w.heap.size + 1) := by show _ = _; rw [HW.out]; simp
  obtain ⟨i3, hi3, hz3, hz31, hz32⟩ := info_parts infoR3
  go_enter Try.func58, Try.ntmps58
  go_upto_region 1 with fail
  rw [← HW.out]
  go_wp2
  go_loopw [3, 4] (fun sv t wr => ∃ (i : Nat) (l : List Int) (v : Value), i ≤ blocks.length ∧ v = sv ∧ t = .int .i64 i ∧ wr.ownsRow W.heap.size 3 1 v l.length (intsV l) ∧ Below W.heap.size W wr ∧ Hid (allM blocks = l ++ allM (blocks.drop i))) (fun _ t _ => blocks.length - (intOf t).toNat)
  case atStart => exact ⟨0, [], _, Nat.zero_le _, rfl, rfl, World.ownsRow_nil _ _ _ _, Below.refl _ _, rfl⟩
  case round =>
    obtain ⟨i, l, v, hi, rfl, rfl, ho, hbr, HL⟩ := hrel
    obtain ⟨f0, f1, _⟩ := HS.out _ hbr
    clear f0_0 f0_1
    have hbwr : Below w.heap.size w wr := hbw.trans (hbr.mono hbw.size)
    by_cases hlt : i < blocks.length
    · obtain ⟨b3, off3, cs, rfl, hcl, ⟨vp, vi, ve, rfl, hpW, hiW, hee⟩, hcW⟩ := (hbl.below hbw (RBlk.below hbw)).at i hlt
      obtain ⟨ap, cp, rfl, lp⟩ := hpW.out
      obtain ⟨ai, ci, rfl, li⟩ := hiW.out
      obtain ⟨ae, ce, rfl, le⟩ := hee.out
      have hc : ∀ j (hj : j < [Value.slice ap blocks[i].params.length cp, .slice ai blocks[i].instrs.length ci, .slice ae blocks[i].edges.length ce].length), wr.cell? ⟨b3, off3 + i * 3 + j, none⟩ = some [Value.slice ap blocks[i].params.length cp, .slice ai blocks[i].instrs.length ci, .slice ae blocks[i].edges.length ce][j] := fun j hj => by
        have := hcW j hj
        rw [hbr.cell (p := ⟨b3, off3 + i * 3 + j, none⟩) (block_lt this)]
        exact this
      unfold longest at lp li le
      have c0 := hc 0 (by simp)
      have c1 := hc 1 (by simp)
      have c2 := hc 2 (by simp)
      simp at c0 c1 c2
      clear hc hcl hcW
      have HL2 : Hid (allM blocks = l ++ (blocks[i].params ++ (insM blocks[i].instrs ++ allM (blocks.drop (i + 1))))) := by show _ = _; rw [← allM_drop blocks i hlt]; exact HL.out
      clear HL
      generalize blocks[i] = bk at *
      have HP : Hid (∀ w', Below W.heap.size W w' → SlOf w' 1 RInt (.slice ap bk.params.length cp) bk.params) := fun w' hh => hpW.below hh fun _ _ h => h
      have HI : Hid (∀ w', Below W.heap.size W w' → SlOf w' 3 (RIns w') (.slice ai bk.instrs.length ci) bk.instrs) := fun w' hh => hiW.below hh (RIns.below hh)
      clear hee hpW hiW
      obtain ⟨bB, hbB⟩ : ∃ bB, bB = wr.heap.size := ⟨_, rfl⟩
      have hS0 : MkSt W bB (#[.slice ap bk.params.length cp, .slice ai bk.instrs.length ci, .slice ae bk.edges.length ce]) (wr.alloc (.cells #[.slice ap bk.params.length cp, .slice ai bk.instrs.length ci, .slice ae bk.edges.length ce] 75)) v l := ⟨ho.alloc _, fun e => by have := (own_base ho e).2; omega, by rw [hbB]; exact heap_alloc_new wr _, hbr.alloc hbr.size _⟩
      have HBB : Hid (bB = wr.heap.size) := hbB
      clear hbB
      go_wp2
      rw [← HBB.out]
      go_loopw [3, 6] (fun sv t wr => ∃ (k : Nat) (l : List Int) (v : Value), k ≤ bk.params.length ∧ v = sv ∧ t = .int .i64 k ∧ MkSt W bB (#[.slice ap bk.params.length cp, .slice ai bk.instrs.length ci, .slice ae bk.edges.length ce]) wr v l ∧ Hid (allM blocks = l ++ (bk.params.drop k ++ (insM bk.instrs ++ allM (blocks.drop (i + 1)))))) (fun _ t _ => bk.params.length - (intOf t).toNat)
      case atStart => exact ⟨0, l, v, Nat.zero_le _, rfl, rfl, hS0, HL2.out⟩
      case round =>
        clear ho hbr hS0 f0 f1 c0 c1 c2 HL2 hbwr
        obtain ⟨k, l, v, hk, rfl, rfl, hS, HL⟩ := hrel
        have k0 : wr.cell? ⟨bB, 0, none⟩ = some (.slice ap bk.params.length cp) := by simp [World.cell?, hS.2.2.1]
        have k1 : wr.cell? ⟨bB, 1, none⟩ = some (.slice ai bk.instrs.length ci) := by simp [World.cell?, hS.2.2.1]
        have hbwr : Below w.heap.size w wr := hbw.trans (hS.2.2.2.mono hbw.size)
        by_cases hltk : k < bk.params.length
        · obtain ⟨bp, offp, rfl, hbp, p0⟩ := int_cell (HP.out _ hS.2.2.2) k hltk
          have HL2 : Hid (allM blocks = (l ++ [bk.params[k]]) ++ (bk.params.drop (k + 1) ++ (insM bk.instrs ++ allM (blocks.drop (i + 1))))) := by
            show _ = _
            rw [HL.out, List.drop_eq_getElem_cons hltk]
            simp only [List.append_assoc, List.cons_append, List.nil_append]
          generalize bk.params[k] = pk at *
          have oA := hS.1.alloc (.cells #[.int .i64 pk] 3)
          have hzb0 := hS.2.2.2.size
          have hLL : l.length < 10000 := by have := congrArg List.length HL.out; simp at this; omega
          go_wp2_with (at_builtin; go_must (refine wpList_append_lies _ rfl _ _ 22 rfl W.heap.size 3 i3 (.int .i64 0) 1 8 Try.underlying22 hi3 hz3 hz31 hz32 rfl (by omega) v l.length _ (by rfl) oA ⟨wr.heap.size, 0, none⟩ 1 1 [.int .i64 pk] (by rfl) (by rfl) ?c1 ?c2 (by omega) ?c3 ?c4 ?c5 (wr.heap.size + 1) ?c6 ?_))
          case c1 => exact newsR rfl
          case c2 => intro u hu; simp at hu; subst hu; rfl
          case c3 => unfold maxLen; omega
          case c4 => omega
          case c5 => simp; omega
          case c6 => simp
          intro g cap wb hown hgrow hat hgl
          have hS2 := hS.push pk hown hgrow hat
          clear oA hown hgrow hat
          go_wp2
          go_roundw
          case rel => exact ⟨k + 1, l ++ [pk], _, by omega, rfl, by go_num, hS2, HL2.out⟩
          case measure => simp [intOf]; omega
        · have HL3 : Hid (allM blocks = l ++ (insM (bk.instrs.drop 0) ++ allM (blocks.drop (i + 1)))) := by
            show _ = _
            rw [HL.out, List.drop_of_length_le (by omega)]
            rfl
          clear HL
          go_wp2
          clear k0 k1
          go_loopw [3, 7] (fun sv t wr => ∃ (q : Nat) (l : List Int) (v : Value), q ≤ bk.instrs.length ∧ v = sv ∧ t = .int .i64 q ∧ MkSt W bB (#[.slice ap bk.params.length cp, .slice ai bk.instrs.length ci, .slice ae bk.edges.length ce]) wr v l ∧ Hid (allM blocks = l ++ (insM (bk.instrs.drop q) ++ allM (blocks.drop (i + 1))))) (fun _ t _ => bk.instrs.length - (intOf t).toNat)
          case atStart => exact ⟨0, l, v, Nat.zero_le _, rfl, rfl, hS, HL3.out⟩
          case round =>
            clear hS HL3 hbwr
            obtain ⟨q, l, v, hq, rfl, rfl, hS, HL⟩ := hrel
            have k0 : wr.cell? ⟨bB, 0, none⟩ = some (.slice ap bk.params.length cp) := by simp [World.cell?, hS.2.2.1]
            have k1 : wr.cell? ⟨bB, 1, none⟩ = some (.slice ai bk.instrs.length ci) := by simp [World.cell?, hS.2.2.1]
            have hbwr : Below w.heap.size w wr := hbw.trans (hS.2.2.2.mono hbw.size)
            by_cases hltq : q < bk.instrs.length
            · have HL2 : Hid (allM blocks = l ++ (oprM (bk.instrs[q].operands.drop 0) ++ (insM (bk.instrs.drop (q + 1)) ++ allM (blocks.drop (i + 1))))) := by
                show _ = _
                rw [HL.out, insM_drop _ _ hltq, List.append_assoc]
                rfl
              clear HL
              obtain ⟨vo, hvo⟩ : ∃ vo, ∃ b7 off7, ai = some ⟨b7, off7, none⟩ ∧ b7 < W.heap.size ∧ SlOf W 5 ROpr vo bk.instrs[q].operands ∧ W.cell? ⟨b7, off7 + q * 3 + 1, none⟩ = some vo := by
                obtain ⟨b7, off7, cs, h7, hcl7, ⟨vo, vs, rfl, ho7, hs7⟩, hc7⟩ := (HI.out _ (Below.refl _ _)).at q hltq
                have c1 := hc7 1 (by simp)
                simp at c1
                exact ⟨vo, b7, off7, h7, block_lt c1, ho7, c1⟩
              obtain ⟨b7, off7, rfl, hb7, ho7, cW⟩ := hvo
              obtain ⟨ao, co, rfl, lo⟩ := ho7.out
              unfold longest at lo
              have i7 := (hS.2.2.2.cell (p := ⟨b7, off7 + q * 3 + 1, none⟩) hb7).trans cW
              generalize bk.instrs[q].operands = ops at *
              go_wp2
              clear k0 k1 i7
              go_loopw [3, 8] (fun sv t wr => ∃ (p : Nat) (l : List Int) (v : Value), p ≤ ops.length ∧ v = sv ∧ t = .int .i64 p ∧ MkSt W bB (#[.slice ap bk.params.length cp, .slice (some ⟨b7, off7, none⟩) bk.instrs.length ci, .slice ae bk.edges.length ce]) wr v l ∧ Hid (allM blocks = l ++ (oprM (ops.drop p) ++ (insM (bk.instrs.drop (q + 1)) ++ allM (blocks.drop (i + 1)))))) (fun _ t _ => ops.length - (intOf t).toNat)
              case atStart => exact ⟨0, l, v, Nat.zero_le _, rfl, rfl, hS, HL2.out⟩
              case round =>
                clear hS HL2 hbwr
                obtain ⟨p, l, v, hpp, rfl, rfl, hS, HL⟩ := hrel
                have k0 : wr.cell? ⟨bB, 0, none⟩ = some (.slice ap bk.params.length cp) := by simp [World.cell?, hS.2.2.1]
                have k1 : wr.cell? ⟨bB, 1, none⟩ = some (.slice (some ⟨b7, off7, none⟩) bk.instrs.length ci) := by simp [World.cell?, hS.2.2.1]
                have hbwr : Below w.heap.size w wr := hbw.trans (hS.2.2.2.mono hbw.size)
                have i7 := (hS.2.2.2.cell (p := ⟨b7, off7 + q * 3 + 1, none⟩) hb7).trans cW
                by_cases hltp : p < ops.length
                · obtain ⟨b5, off5, rfl, hb5, c0, c1, c2, c3, c4⟩ := opr_cells (ho7.below hS.2.2.2 fun _ _ h => h) p hltp
                  have hd := oprM_drop ops p hltp
                  generalize ops[p] = o at *
                  by_cases hk2 : o.kind = 2
                  · have q2 : (o.kind == 2) = true := by simp [hk2]
                    have HL2 : Hid (allM blocks = (l ++ [o.value]) ++ (oprM (ops.drop (p + 1)) ++ (insM (bk.instrs.drop (q + 1)) ++ allM (blocks.drop (i + 1))))) := by
                      show _ = _
                      rw [HL.out, hd, if_pos hk2]
                      simp only [List.append_assoc]
                    clear hd hk2
                    have oA := hS.1.alloc (.cells #[.int .i64 o.value] 3)
                    have hzb0 := hS.2.2.2.size
                    have hLL : l.length < 10000 := by have := congrArg List.length HL.out; simp at this; omega
                    go_wp2_with (at_builtin; go_must (refine wpList_append_lies _ rfl _ _ 22 rfl W.heap.size 3 i3 (.int .i64 0) 1 8 Try.underlying22 hi3 hz3 hz31 hz32 rfl (by omega) v l.length _ (by rfl) oA ⟨wr.heap.size, 0, none⟩ 1 1 [.int .i64 o.value] (by rfl) (by rfl) ?c1 ?c2 (by omega) ?c3 ?c4 ?c5 (wr.heap.size + 1) ?c6 ?_))
                    case c1 => exact newsR rfl
                    case c2 => intro u hu; simp at hu; subst hu; rfl
                    case c3 => unfold maxLen; omega
                    case c4 => omega
                    case c5 => simp; omega
                    case c6 => simp
                    intro g cap wb hown hgrow hat hgl
                    have hS2 := hS.push o.value hown hgrow hat
                    clear oA hown hgrow hat
                    go_wp2
                    go_roundw
                    case rel => exact ⟨p + 1, l ++ [o.value], _, by omega, rfl, by go_num, hS2, HL2.out⟩
                    case measure => simp [intOf]; omega
                  · have q2 : (o.kind == 2) = false := by simpa using hk2
                    have HL2 : Hid (allM blocks = l ++ (oprM (ops.drop (p + 1)) ++ (insM (bk.instrs.drop (q + 1)) ++ allM (blocks.drop (i + 1))))) := by
                      show _ = _
                      rw [HL.out, hd, if_neg hk2]
                      rfl
                    clear hd hk2
                    go_wp2
                    go_roundw
                    case rel => exact ⟨p + 1, l, v, by omega, rfl, by go_num, hS, HL2.out⟩
                    case measure => simp [intOf]; omega
                · have HL2 : Hid (allM blocks = l ++ (insM (bk.instrs.drop (q + 1)) ++ allM (blocks.drop (i + 1)))) := by
                    show _ = _
                    rw [HL.out, List.drop_of_length_le (l := ops) (by omega)]
                    rfl
                  go_wp2
                  go_roundw
                  case rel => exact ⟨q + 1, l, v, by omega, rfl, by go_num, hS, HL2.out⟩
                  case measure => simp [intOf]; omega
            · have HL2 : Hid (allM blocks = l ++ allM (blocks.drop (i + 1))) := by
                show _ = _
                rw [HL.out, List.drop_of_length_le (l := bk.instrs) (by omega)]
                rfl
              go_wp2
              go_roundw
              case rel => exact ⟨i + 1, l, v, by omega, rfl, by go_num, hS.1, hS.2.2.2, HL2.out⟩
              case measure => simp [intOf]; omega
    · have e : l = allM blocks := by
        have := HL.out
        rw [List.drop_of_length_le (by omega)] at this
        simpa [allM] using this.symm
      subst e
      have HZ' := HZ.out
      rw [HZ'] at ho
      go_wp2
      go_ret
      exact ⟨_, rfl, ho, hbwr⟩
end Go.Proofs.Ytjbjnndmpheedaa
namespace Go.Proofs.Ytjbjnndmpheedaa
open Go.RowKit
set_option linter.unusedVariables false

set_option maxRecDepth 8000 in
set_option maxHeartbeats 16000000 in
theorem bigFault_is (f : Fn) (av : Option Addr) (cv : Nat) (ab : Option Addr) (cb : Nat) (w : World) (r : Int) (hr : (if sizesB f = true then 0 else 1 : Int) = r) (hv : SlOf w 1 RInt (.slice av f.values.length cv) f.values) (hbl : SlOf w 3 (RBlk w) (.slice ab f.blocks.length cb) f.blocks) :
    Calls Try.prog 55 #[.agg #[.slice av f.values.length cv, .slice ab f.blocks.length cb]] w fun e w' => e = .returned (.int .i64 r) ∧ Below w.heap.size w w' := by
  obtain ⟨_, _, _, lv⟩ := hv.out
  obtain ⟨_, _, _, lb⟩ := hbl.out
  unfold longest at lv lb
  obtain ⟨W, hW⟩ : ∃ W, W = w.alloc (.cells #[.slice av f.values.length cv, .slice ab f.blocks.length cb] 25) := ⟨_, rfl⟩
  have hbw : Below w.heap.size w W := by rw [hW]; exact (Below.refl _ _).alloc (Nat.le_refl _) _
  have zW : w.heap.size < W.heap.size := by rw [hW]; simp
  have t0 := top_at w #[.slice av f.values.length cv, .slice ab f.blocks.length cb] 25
  have f0_0 : W.cell? ⟨w.heap.size, 0, none⟩ = some (.slice av f.values.length cv) := by rw [hW]; exact t0 0
  have f0_1 : W.cell? ⟨w.heap.size, 1, none⟩ = some (.slice ab f.blocks.length cb) := by rw [hW]; exact t0 1
  have HS : Hid (∀ w', Below W.heap.size W w' → (fun w' => w'.cell? ⟨w.heap.size, 0, none⟩ = some (.slice av f.values.length cv) ∧ w'.cell? ⟨w.heap.size, 1, none⟩ = some (.slice ab f.blocks.length cb) ∧ Below W.heap.size W w') w') := fun w' hh => ⟨(hh.cell (by simp; omega)).trans f0_0, (hh.cell (by simp; omega)).trans f0_1, hh⟩
  have HW : Hid (W = w.alloc (.cells #[.slice av f.values.length cv, .slice ab f.blocks.length cb] 25)) := hW
  clear hW t0
  have HB1 : Hid (sizesB f = false → 1 = r) := fun h => by rw [← hr, h]; rfl
  have HB0 : Hid (sizesB f = true → 0 = r) := fun h => by rw [← hr, h]; rfl
  clear hr
  cases hi : inB (f.blocks.length : Int) 1 16
  · have H : Hid (1 = r) := HB1.out (by
      unfold sizesB
      rw [if_pos]
      simp [inB] at hi
      omega)
    go_enter Try.func55, Try.ntmps55
    go_upto_region 1 with fail
    rw [← HW.out]
    go_wp2_with fail
    refine (in_is _ _ _ _ hi _).mono ?_
    rintro e W ⟨rfl, rfl⟩
    go_wp2
    go_ret
    exact ⟨ret_int H.out, hbw⟩
  by_cases hv160 : 160 < f.values.length
  · have H : Hid (1 = r) := HB1.out (by
      unfold sizesB
      rw [if_pos (by omega)])
    have g1 : (160 : Int) < (f.values.length : Int) := by omega
    go_enter Try.func55, Try.ntmps55
    go_upto_region 1 with fail
    rw [← HW.out]
    go_wp2_with fail
    refine (in_is _ _ _ _ hi _).mono ?_
    rintro e W ⟨rfl, rfl⟩
    go_wp2
    go_ret
    exact ⟨ret_int H.out, hbw⟩
  have g1 : ¬ (160 : Int) < (f.values.length : Int) := by omega
  have HK0 : Hid (sizesGo 0 f.blocks = sizesB f) := by
    show _ = _
    unfold sizesB
    rw [if_neg]
    simp [inB] at hi
    omega
  go_enter Try.func55, Try.ntmps55
  go_upto_region 1 with fail
  rw [← HW.out]
  go_wp2_with fail
  refine (in_is _ _ _ _ hi _).mono ?_
  rintro e W ⟨rfl, rfl⟩
  go_wp2
  clear hi hv160
  go_loopw [3, 4] (fun a t wr => ∃ (k A : Nat), k ≤ f.blocks.length ∧ A ≤ 160 ∧ a = .int .i64 A ∧ t = .int .i64 k ∧ Below W.heap.size W wr ∧ Hid (sizesGo A (f.blocks.drop k) = sizesB f)) (fun _ t _ => f.blocks.length - (intOf t).toNat)
  case atStart => exact ⟨0, 0, Nat.zero_le _, by omega, rfl, rfl, Below.refl _ _, HK0.out⟩
  case round =>
    obtain ⟨k, A, hk, hA, rfl, rfl, hbr, HK⟩ := hrel
    have hbwr : Below w.heap.size w wr := hbw.trans (hbr.mono hbw.size)
    have zr := hbr.size
    obtain ⟨f0_0', f0_1', _⟩ := HS.out _ hbr
    clear f0_0 f0_1
    by_cases hlt : k < f.blocks.length
    · have HK' : Hid (sizesGo A (f.blocks[k] :: f.blocks.drop (k + 1)) = sizesB f) := by rw [← List.drop_eq_getElem_cons hlt]; exact HK
      clear HK
      obtain ⟨b3, off3, cs, rfl, hcl, ⟨vp, vi, ve, rfl, hp, hii, hee⟩, hc⟩ := (hbl.below hbwr (RBlk.below hbwr)).at k hlt
      obtain ⟨ap, cp, rfl, lp⟩ := hp.out
      obtain ⟨ai, ci, rfl, li⟩ := hii.out
      obtain ⟨ae, ce, rfl, le⟩ := hee.out
      unfold longest at lp li le
      have c0 := hc 0 (by simp)
      have c1 := hc 1 (by simp)
      have c2 := hc 2 (by simp)
      simp at c0 c1 c2
      clear hc hcl
      generalize f.blocks[k] = b at *
      obtain ⟨W1, hW1⟩ : ∃ W1, W1 = wr.alloc (.cells #[.slice ap b.params.length cp, .slice ai b.instrs.length ci, .slice ae b.edges.length ce] 75) := ⟨_, rfl⟩
      have hb1 : Below wr.heap.size wr W1 := by rw [hW1]; exact (Below.refl _ _).alloc (Nat.le_refl _) _
      have t1 := top_at wr #[.slice ap b.params.length cp, .slice ai b.instrs.length ci, .slice ae b.edges.length ce] 75
      have d0 : W1.cell? ⟨wr.heap.size, 0, none⟩ = some (.slice ap b.params.length cp) := by rw [hW1]; exact t1 0
      have d1 : W1.cell? ⟨wr.heap.size, 1, none⟩ = some (.slice ai b.instrs.length ci) := by rw [hW1]; exact t1 1
      have d2 : W1.cell? ⟨wr.heap.size, 2, none⟩ = some (.slice ae b.edges.length ce) := by rw [hW1]; exact t1 2
      have hi1 := hii.below hb1 (RIns.below hb1)
      have hbW1 : Below W.heap.size W W1 := hbr.trans (hb1.mono hbr.size)
      have hbw1 : Below w.heap.size w W1 := hbw.trans (hbW1.mono hbw.size)
      have HW1 : Hid (W1 = wr.alloc (.cells #[.slice ap b.params.length cp, .slice ai b.instrs.length ci, .slice ae b.edges.length ce] 75)) := hW1
      clear hW1 t1 hp hii hee
      have HBAD : Hid ((160 < A + b.instrs.length ∨ blkFits b = false) → 1 = r) := fun h => HB1.out (by
        rw [← HK'.out]
        unfold sizesGo
        rcases h with h | h
        · rw [if_pos h]
        · rw [h]; split <;> rfl)
      have HGOOD : Hid (¬ 160 < A + b.instrs.length → blkFits b = true → sizesGo (A + b.instrs.length) (f.blocks.drop (k + 1)) = sizesB f) := by
        intro h h2
        rw [← HK'.out]
        conv => rhs; unfold sizesGo
        rw [if_neg h, if_pos h2]
      clear HK'
      go_upto_region 8 with fail
      rw [← HW1.out]
      clear c0 c1 c2 f0_0' f0_1'
      by_cases p5 : 5 < b.params.length
      · have g5 : (5 : Int) < (b.params.length : Int) := by omega
        have H : Hid (1 = r) := HBAD.out (Or.inr (blkFits_false (Or.inl p5)))
        go_wp2
        go_ret
        exact ⟨ret_int H.out, hbw1⟩
      have g5 : ¬ (5 : Int) < (b.params.length : Int) := by omega
      by_cases i40 : 40 < b.instrs.length
      · have g40 : (40 : Int) < (b.instrs.length : Int) := by omega
        have H : Hid (1 = r) := HBAD.out (Or.inr (blkFits_false (Or.inr (Or.inl i40))))
        go_wp2
        go_ret
        exact ⟨ret_int H.out, hbw1⟩
      have g40 : ¬ (40 : Int) < (b.instrs.length : Int) := by omega
      by_cases e3 : 3 < b.edges.length
      · have ge3 : (3 : Int) < (b.edges.length : Int) := by omega
        have H : Hid (1 = r) := HBAD.out (Or.inr (blkFits_false (Or.inr (Or.inr (Or.inl e3)))))
        go_wp2
        go_ret
        exact ⟨ret_int H.out, hbw1⟩
      have ge3 : ¬ (3 : Int) < (b.edges.length : Int) := by omega
      by_cases a160 : 160 < A + b.instrs.length
      · have ga : (160 : Int) < (A : Int) + (b.instrs.length : Int) := by omega
        have H : Hid (1 = r) := HBAD.out (Or.inl a160)
        go_wp2
        go_ret
        exact ⟨ret_int H.out, hbw1⟩
      have ga : ¬ (160 : Int) < (A : Int) + (b.instrs.length : Int) := by omega
      go_wp2
      go_loop [6] (fun t => ∃ q : Nat, q ≤ b.instrs.length ∧ t = .int .i64 q ∧ Hid ((b.instrs.take q).all insFits = true)) (fun t => b.instrs.length - (intOf t).toNat)
      case atStart => exact ⟨0, Nat.zero_le _, rfl, rfl⟩
      case round =>
        obtain ⟨q, hq, rfl, HQ⟩ := hrel
        by_cases hltq : q < b.instrs.length
        · obtain ⟨b7, off7, cs, rfl, hcl7, ⟨vo, vs, rfl, ho7, hs7⟩, hc7⟩ := hi1.at q hltq
          obtain ⟨ao, co, rfl, lo⟩ := ho7.out
          obtain ⟨asp, csp, rfl, lsp⟩ := hs7.out
          unfold longest at lo lsp
          have e1 := hc7 1 (by simp)
          have e2 := hc7 2 (by simp)
          simp at e1 e2
          clear hc7 hcl7 ho7 hs7
          by_cases o6 : 6 < b.instrs[q].operands.length
          · have g6 : (6 : Int) < (b.instrs[q].operands.length : Int) := by omega
            have H : Hid (1 = r) := HBAD.out (Or.inr (blkFits_false (Or.inr (Or.inr (Or.inr (all_not _ _ _ hltq (by simp [insFits]; omega)))))))
            go_wp2
            go_ret
            exact ⟨ret_int H.out, hbw1⟩
          have g6 : ¬ (6 : Int) < (b.instrs[q].operands.length : Int) := by omega
          by_cases s20 : 20 < b.instrs[q].spoils.length
          · have g20 : (20 : Int) < (b.instrs[q].spoils.length : Int) := by omega
            have H : Hid (1 = r) := HBAD.out (Or.inr (blkFits_false (Or.inr (Or.inr (Or.inr (all_not _ _ _ hltq (by simp [insFits]; omega)))))))
            go_wp2
            go_ret
            exact ⟨ret_int H.out, hbw1⟩
          have g20 : ¬ (20 : Int) < (b.instrs[q].spoils.length : Int) := by omega
          have H : Hid ((b.instrs.take (q + 1)).all insFits = true) := all_snoc _ _ _ hltq HQ.out (by simp [insFits]; omega)
          clear HQ
          go_wp2
          go_round
          case rel => exact ⟨q + 1, by omega, by go_num, H⟩
          case measure => simp [intOf]; omega
        · have hall := all_done _ _ q (by omega) HQ.out
          have H : Hid (sizesGo (A + b.instrs.length) (f.blocks.drop (k + 1)) = sizesB f) := HGOOD.out a160 (blkFits_true (by omega) (by omega) (by omega) hall)
          clear HQ hall
          go_wp2
          go_roundw
          case rel => exact ⟨k + 1, A + b.instrs.length, by omega, by omega, by go_num, by go_num, hbW1, H⟩
          case measure => simp [intOf]; omega
    · have H : Hid (0 = r) := HB0.out (by
        rw [← HK.out, List.drop_of_length_le (by omega)]
        rfl)
      clear HK
      go_wp2
      go_ret
      exact ⟨ret_int H.out, hbwr⟩
end Go.Proofs.Ytjbjnndmpheedaa
