/-
  The contract of the statements' own 'spot': some block, some instruction.
-/
import Derived.Test.YtanhfkpphdbaaaaO1
namespace Go.Proofs.Ytanhfkpphdbaaaa
open Go.RowKit
set_option linter.unusedVariables false

def totI (bs : List Blk) : Nat := (bs.map fun b => b.instrs.length).sum
def spotGo : List Blk → Nat → Int → Int × Int
  | [], _, _ => (0, 0)
  | x :: r, b, k => if k < (x.instrs.length : Int) then ((b : Int), k) else spotGo r (b + 1) (k - (x.instrs.length : Int))
def spotM (bs : List Blk) (n : Int) : Int × Int := spotGo bs 0 (pickedOf n (max (totI bs : Int) 1))
theorem totI_take (bs : List Blk) (k : Nat) (h : k < bs.length) : totI (bs.take (k + 1)) = totI (bs.take k) + bs[k].instrs.length := by
  unfold totI
  rw [List.take_succ_eq_append_getElem h, List.map_append, List.sum_append]
  simp
theorem totI_le (bs : List Blk) (M : Nat) (h : ∀ b ∈ bs, b.instrs.length ≤ M) : totI bs ≤ bs.length * M := by
  induction bs with
  | nil => simp [totI]
  | cons x r ih =>
    have h1 := ih fun b hb => h b (List.mem_cons_of_mem _ hb)
    have h2 := h x List.mem_cons_self
    unfold totI at h1 ⊢
    rw [List.map_cons, List.sum_cons, List.length_cons, Nat.succ_mul]
    omega
set_option maxRecDepth 4000 in
set_option maxHeartbeats 4000000 in
theorem spot_any (f : Fn) (n : Int) (nv nb : Nat) (av ab : Option Addr) (cv cb : Nat) (w : World) (hnb : f.blocks.length = nb) (hb : SlOf w 3 (RBlk w) (.slice ab nb cb) f.blocks) (hfit : FnFit f) (hn0 : -9223372036854775808 ≤ n) (hn1 : n ≤ 9223372036854775807) (hpos : 1 ≤ totI f.blocks) (r0 r1 : Int) (hr : spotM f.blocks n = (r0, r1)) :
    Calls Try.prog 13 #[.agg #[.slice av nv cv, .slice ab nb cb], .int .i64 n] w fun e w' => e = .returned (.tuple #[.int .i64 r0, .int .i64 r1]) ∧ Below w.heap.size w w' := by
  have HB : Hid (SlOf w 3 (RBlk w) (.slice ab nb cb) f.blocks) := hb
  have HF : Hid (FnFit f) := hfit
  have HNB : Hid (f.blocks.length = nb) := hnb
  have HR : Hid (spotM f.blocks n = (r0, r1)) := hr
  have bnb : nb ≤ 1000 := by rw [← hnb]; exact hfit.nb
  have HTOT : Hid (∀ k, totI (f.blocks.take k) ≤ 1000000) := fun k => by
    have h1 := totI_le (f.blocks.take k) 1000 fun b hb => (hfit.blk b (List.mem_of_mem_take hb)).2.1
    have h2 : (f.blocks.take k).length ≤ 1000 := by rw [List.length_take]; have := hfit.nb; omega
    have h3 : (f.blocks.take k).length * 1000 ≤ 1000 * 1000 := Nat.mul_le_mul_right _ h2
    omega
  obtain ⟨N, hN⟩ : ∃ N, w.heap.size = N := ⟨_, rfl⟩
  obtain ⟨W, hW⟩ : ∃ W, W = w.alloc (.cells #[.slice av nv cv, .slice ab nb cb] 32) := ⟨_, rfl⟩
  have rF : W.rowIs N 32 2 (fun q => if q = 0 then .slice av nv cv else .slice ab nb cb) := by
    rw [hW, ← hN]
    exact World.rowIs_alloc _ _ _ _ fun i hi => by
      simp at hi
      match i, hi with | 0, _ => rfl | 1, _ => rfl
  have hbW : Below w.heap.size w W := by rw [hW]; exact (Below.refl _ _).alloc (Nat.le_refl _) _
  have F1 : W.cell? ⟨N, 1, none⟩ = some (.slice ab nb cb) := rF.cell (i := 1) (by omega)
  have lN := rF.lt
  have HBW : Hid (Below w.heap.size w W) := hbW
  have HW : Hid (W = w.alloc (.cells #[.slice av nv cv, .slice ab nb cb] 32)) := hW
  have HN : Hid (w.heap.size = N) := hN
  clear hW hN rF hbW hb hfit hnb hr
  go_enter Try.func13, Try.ntmps13
  go_upto_region 1 with fail
  rw [← HW.out, HN.out]
  clear HW
  go_wp2_with fail
  go_loopw [14, 6] (fun x v wr => ∃ k : Nat, k ≤ nb ∧ x = .int .i64 k ∧ v = .int .i64 (totI (f.blocks.take k) : Nat) ∧ Hid (Below W.heap.size W wr)) (fun x _ _ => nb - (intOf x).toNat)
  case atStart => exact ⟨0, Nat.zero_le _, rfl, by simp [totI], Below.refl _ _⟩
  case round =>
    obtain ⟨k, hk, rfl, rfl, HK⟩ := hrel
    by_cases hlt : k < nb
    · have hkb : k < f.blocks.length := by rw [HNB.out]; exact hlt
      obtain ⟨b5, off5, cs, rfl, hcl5, ⟨vp, vi, ve, rfl, hp, hi, he0⟩, hc⟩ := HB.out.at k hkb
      obtain ⟨ae, ce, rfl, _⟩ := he0.out
      obtain ⟨ap, cp, rfl, _⟩ := hp.out
      obtain ⟨ai, ci, rfl, _⟩ := hi.out
      have hb0 : Below w.heap.size w wr := HBW.out.trans (HK.out.mono HBW.out.size)
      have c0 := (hb0.cell (p := ⟨b5, off5 + k * 3 + 0, none⟩) (block_lt (hc 0 (by simp)))).trans (hc 0 (by simp))
      have c1 := (hb0.cell (p := ⟨b5, off5 + k * 3 + 1, none⟩) (block_lt (hc 1 (by simp)))).trans (hc 1 (by simp))
      have c2 := (hb0.cell (p := ⟨b5, off5 + k * 3 + 2, none⟩) (block_lt (hc 2 (by simp)))).trans (hc 2 (by simp))
      simp at c0 c1 c2
      have ht0 := HTOT.out k
      have ht1 := HTOT.out (k + 1)
      have HT : Hid (totI (f.blocks.take (k + 1)) = totI (f.blocks.take k) + f.blocks[k].instrs.length) := totI_take f.blocks k hkb
      rw [HT.out] at ht1
      have HBX : Hid (Below W.heap.size W (wr.alloc (.cells #[.slice ap f.blocks[k].params.length cp, .slice ai f.blocks[k].instrs.length ci, .slice ae f.blocks[k].edges.length ce] 45))) := HK.out.alloc HK.out.size _
      clear hc hcl5 hp hi he0 hb0 HK
      generalize totI (f.blocks.take k) = tk at *
      generalize f.blocks[k].params.length = np at *
      generalize f.blocks[k].instrs.length = ni at *
      generalize f.blocks[k].edges.length = ne at *
      go_wp2
      go_roundw
      case rel => exact ⟨k + 1, by omega, by go_num, by rw [HT.out]; first | rfl | (congr 1; omega), HBX⟩
      case measure => simp [intOf]; omega
    · obtain rfl : k = nb := by omega
      have htk : f.blocks.take k = f.blocks := List.take_of_length_le (by rw [HNB.out]; exact Nat.le_refl _)
      have ht0 := HTOT.out k
      rw [htk] at ht0
      rw [htk]
      obtain ⟨tt, htt⟩ : ∃ tt, totI f.blocks = tt := ⟨_, rfl⟩
      rw [htt] at ht0
      rw [htt]
      rw [htt] at hpos
      have hmx : max (tt : Int) 1 = (tt : Int) := by omega
      obtain ⟨pk, hpk⟩ : ∃ pk, pickedOf n (tt : Int) = pk := ⟨_, rfl⟩
      have HPK : Hid (pickedOf n (tt : Int) = pk) := hpk
      have hpb := pickedOf_bd n (tt : Int) (by omega)
      rw [hpk] at hpb
      have HS0 : Hid (spotGo f.blocks 0 pk = (r0, r1)) := by
        show _ = _
        have h := HR.out
        unfold spotM at h
        rw [htt, hmx, hpk] at h
        exact h
      obtain ⟨hp1, hp2⟩ := hpb
      have y1 := (HK.out.cell (p := ⟨N, 1, none⟩) lN).trans F1
      have hle1 : ¬ (tt : Int) < 1 := by omega
      have hle2 : (1 : Int) ≤ (tt : Int) := by omega
      clear hlt hk htk htt hpk
      go_wp2_with (go_at_call 16; refine (picked_is _ _ _ _ HPK.out (by omega) (by omega) (by omega) (by omega)).mono ?_; rintro e wr ⟨rfl, rfl⟩)
      clear y1
      have HW0 : Hid (Below W.heap.size W wr) := HK.out
      clear HK
      obtain ⟨wo, rfl⟩ : ∃ wo : World, wo = wr := ⟨_, rfl⟩
      go_loopw [31, 9] (fun x v wr => ∃ (j : Nat) (kk : Int), j ≤ k ∧ x = .int .i64 j ∧ v = .int .i64 kk ∧ 0 ≤ kk ∧ kk ≤ 1000000 ∧ wr = wo ∧ Hid (spotGo (f.blocks.drop j) j kk = (r0, r1))) (fun x _ _ => k - (intOf x).toNat)
      case atStart => exact ⟨0, pk, Nat.zero_le _, rfl, rfl, hp1, by omega, rfl, HS0⟩
      case round =>
        clear HS0
        obtain ⟨j, kk, hj, rfl, rfl, kk0, kk1, rfl, HJ⟩ := hrel
        have hb0 : Below w.heap.size w wr := HBW.out.trans (HW0.out.mono HBW.out.size)
        have y1 := (HW0.out.cell (p := ⟨N, 1, none⟩) lN).trans F1
        by_cases hlt : j < k
        · have hjb : j < f.blocks.length := by rw [HNB.out]; exact hlt
          obtain ⟨b5, off5, cs, rfl, hcl5, ⟨vp, vi, ve, rfl, hp, hi, he0⟩, hc⟩ := HB.out.at j hjb
          obtain ⟨ai, ci, rfl, _⟩ := hi.out
          have c1 := (hb0.cell (p := ⟨b5, off5 + j * 3 + 1, none⟩) (block_lt (hc 1 (by simp)))).trans (hc 1 (by simp))
          simp at c1
          have hJ := HJ.out
          rw [List.drop_eq_getElem_cons hjb] at hJ
          simp only [spotGo] at hJ
          have hni : f.blocks[j].instrs.length ≤ 1000 := (HF.out.blk _ (List.getElem_mem hjb)).2.1
          clear hc hcl5 hp hi he0 hb0 HJ
          generalize f.blocks[j].instrs.length = ni at *
          by_cases hkk : kk < (ni : Int)
          · rw [if_pos hkk] at hJ
            simp only [Prod.mk.injEq] at hJ
            have HRR : Hid ((j : Int) = r0 ∧ kk = r1) := hJ
            have q1 : decide (kk < (ni : Int)) = true := by simp [hkk]
            clear hJ
            go_wp2
            go_ret2
            exact ⟨ret_two HRR.out.1 HRR.out.2, HBW.out.trans (HW0.out.mono HBW.out.size)⟩
          · rw [if_neg hkk] at hJ
            have HJ2 : Hid (spotGo (f.blocks.drop (j + 1)) (j + 1) (kk - (ni : Int)) = (r0, r1)) := hJ
            have q1 : decide (kk < (ni : Int)) = false := by simp; omega
            clear hJ
            go_wp2
            go_roundw
            case rel => exact ⟨j + 1, kk - (ni : Int), by omega, by go_num, rfl, by omega, by omega, by first | rfl | trivial, HJ2⟩
            case measure => simp [intOf]; omega
        · have HRR : Hid (0 = r0 ∧ 0 = r1) := by
            have h := HJ.out
            rw [List.drop_eq_nil_of_le (by rw [HNB.out]; omega)] at h
            simp only [spotGo, Prod.mk.injEq] at h
            exact h
          clear HJ hb0
          go_wp2
          go_ret2
          exact ⟨ret_two HRR.out.1 HRR.out.2, HBW.out.trans (HW0.out.mono HBW.out.size)⟩
end Go.Proofs.Ytanhfkpphdbaaaa
