/-
  The contract of the reference's 'bigFault' (P1.3).
-/
import Derived.Test.YtnghhhlcifpiaaaRefA
import Derived.Test.YtnghhhlcifpiaaaFits
import Derived.Deep.DeepCutAuto
import Derived.Deep.CutBlock
namespace Go.Proofs.Ytnghhhlcifpiaaa
open Go.RowKit
set_option linter.unusedVariables false

set_option maxRecDepth 8000 in
set_option maxHeartbeats 16000000 in
theorem bigFault_is (f : Fn) (av : Option Addr) (cv : Nat) (ab : Option Addr) (cb : Nat) (w : World) (r : Int) (hr : (if sizesB f = true then 0 else 1 : Int) = r) (hv : SlOf w 1 RInt (.slice av f.values.length cv) f.values) (hbl : SlOf w 3 (RBlk w) (.slice ab f.blocks.length cb) f.blocks) :
    Calls Try.prog 22 #[.agg #[.slice av f.values.length cv, .slice ab f.blocks.length cb]] w fun e w' => e = .returned (.int .i64 r) ∧ Below w.heap.size w w' := by
  obtain ⟨_, _, _, lv⟩ := hv.out
  obtain ⟨_, _, _, lb⟩ := hbl.out
  unfold longest at lv lb
  obtain ⟨W, hW⟩ : ∃ W, W = w.alloc (.cells #[.slice av f.values.length cv, .slice ab f.blocks.length cb] 31) := ⟨_, rfl⟩
  have hbw : Below w.heap.size w W := by rw [hW]; exact (Below.refl _ _).alloc (Nat.le_refl _) _
  have zW : w.heap.size < W.heap.size := by rw [hW]; simp
  have t0 := top_at w #[.slice av f.values.length cv, .slice ab f.blocks.length cb] 31
  have f0_0 : W.cell? ⟨w.heap.size, 0, none⟩ = some (.slice av f.values.length cv) := by rw [hW]; exact t0 0
  have f0_1 : W.cell? ⟨w.heap.size, 1, none⟩ = some (.slice ab f.blocks.length cb) := by rw [hW]; exact t0 1
  have HS : Hid (∀ w', Below W.heap.size W w' → (fun w' => w'.cell? ⟨w.heap.size, 0, none⟩ = some (.slice av f.values.length cv) ∧ w'.cell? ⟨w.heap.size, 1, none⟩ = some (.slice ab f.blocks.length cb) ∧ Below W.heap.size W w') w') := fun w' hh => ⟨(hh.cell (by simp; omega)).trans f0_0, (hh.cell (by simp; omega)).trans f0_1, hh⟩
  have HW : Hid (W = w.alloc (.cells #[.slice av f.values.length cv, .slice ab f.blocks.length cb] 31)) := hW
  clear hW t0
  have HB1 : Hid (sizesB f = false → 1 = r) := fun h => by rw [← hr, h]; rfl
  have HB0 : Hid (sizesB f = true → 0 = r) := fun h => by rw [← hr, h]; rfl
  clear hr
  cases hi : inB (f.blocks.length : Int) 1 16
  · have H : Hid (1 = r) := HB1.out (by
      unfold sizesB
      rw [if_pos]
      simp [inB] at hi
      omega)
    go_enter Try.func22, Try.ntmps22
    go_upto_region 1 with fail
    rw [← HW.out]
    go_wp2_with fail
    refine (in_is _ _ _ _ hi _).mono ?_
    rintro e W ⟨rfl, rfl⟩
    go_wp2
    go_ret
    exact ⟨ret_int H.out, hbw⟩
  by_cases hv160 : 160 < f.values.length
  · have H : Hid (1 = r) := HB1.out (by
      unfold sizesB
      rw [if_pos (by omega)])
    have g1 : (160 : Int) < (f.values.length : Int) := by omega
    go_enter Try.func22, Try.ntmps22
    go_upto_region 1 with fail
    rw [← HW.out]
    go_wp2_with fail
    refine (in_is _ _ _ _ hi _).mono ?_
    rintro e W ⟨rfl, rfl⟩
    go_wp2
    go_ret
    exact ⟨ret_int H.out, hbw⟩
  have g1 : ¬ (160 : Int) < (f.values.length : Int) := by omega
  have HK0 : Hid (sizesGo 0 f.blocks = sizesB f) := by
    show _ = _
    unfold sizesB
    rw [if_neg]
    simp [inB] at hi
    omega
  go_enter Try.func22, Try.ntmps22
  go_upto_region 1 with fail
  rw [← HW.out]
  go_wp2_with fail
  refine (in_is _ _ _ _ hi _).mono ?_
  rintro e W ⟨rfl, rfl⟩
  go_wp2
  clear hi hv160
  go_loopw [3, 4] (fun a t wr => ∃ (k A : Nat), k ≤ f.blocks.length ∧ A ≤ 160 ∧ a = .int .i64 A ∧ t = .int .i64 k ∧ Below W.heap.size W wr ∧ Hid (sizesGo A (f.blocks.drop k) = sizesB f)) (fun _ t _ => f.blocks.length - (intOf t).toNat)
  case atStart => exact ⟨0, 0, Nat.zero_le _, by omega, rfl, rfl, Below.refl _ _, HK0.out⟩
  case round =>
    obtain ⟨k, A, hk, hA, rfl, rfl, hbr, HK⟩ := hrel
    have hbwr : Below w.heap.size w wr := hbw.trans (hbr.mono hbw.size)
    have zr := hbr.size
    obtain ⟨f0_0', f0_1', _⟩ := HS.out _ hbr
    clear f0_0 f0_1
    by_cases hlt : k < f.blocks.length
    · have HK' : Hid (sizesGo A (f.blocks[k] :: f.blocks.drop (k + 1)) = sizesB f) := by rw [← List.drop_eq_getElem_cons hlt]; exact HK
      clear HK
      obtain ⟨b3, off3, cs, rfl, hcl, ⟨vp, vi, ve, rfl, hp, hii, hee⟩, hc⟩ := (hbl.below hbwr (RBlk.below hbwr)).at k hlt
      obtain ⟨ap, cp, rfl, lp⟩ := hp.out
      obtain ⟨ai, ci, rfl, li⟩ := hii.out
      obtain ⟨ae, ce, rfl, le⟩ := hee.out
      unfold longest at lp li le
      have c0 := hc 0 (by simp)
      have c1 := hc 1 (by simp)
      have c2 := hc 2 (by simp)
      simp at c0 c1 c2
      clear hc hcl
      generalize f.blocks[k] = b at *
      obtain ⟨W1, hW1⟩ : ∃ W1, W1 = wr.alloc (.cells #[.slice ap b.params.length cp, .slice ai b.instrs.length ci, .slice ae b.edges.length ce] 50) := ⟨_, rfl⟩
      have hb1 : Below wr.heap.size wr W1 := by rw [hW1]; exact (Below.refl _ _).alloc (Nat.le_refl _) _
      have t1 := top_at wr #[.slice ap b.params.length cp, .slice ai b.instrs.length ci, .slice ae b.edges.length ce] 50
      have d0 : W1.cell? ⟨wr.heap.size, 0, none⟩ = some (.slice ap b.params.length cp) := by rw [hW1]; exact t1 0
      have d1 : W1.cell? ⟨wr.heap.size, 1, none⟩ = some (.slice ai b.instrs.length ci) := by rw [hW1]; exact t1 1
      have d2 : W1.cell? ⟨wr.heap.size, 2, none⟩ = some (.slice ae b.edges.length ce) := by rw [hW1]; exact t1 2
      have hi1 := hii.below hb1 (RIns.below hb1)
      have hbW1 : Below W.heap.size W W1 := hbr.trans (hb1.mono hbr.size)
      have hbw1 : Below w.heap.size w W1 := hbw.trans (hbW1.mono hbw.size)
      have HW1 : Hid (W1 = wr.alloc (.cells #[.slice ap b.params.length cp, .slice ai b.instrs.length ci, .slice ae b.edges.length ce] 50)) := hW1
      clear hW1 t1 hp hii hee
      have HBAD : Hid ((160 < A + b.instrs.length ∨ blkFits b = false) → 1 = r) := fun h => HB1.out (by
        rw [← HK'.out]
        unfold sizesGo
        rcases h with h | h
        · rw [if_pos h]
        · rw [h]; split <;> rfl)
      have HGOOD : Hid (¬ 160 < A + b.instrs.length → blkFits b = true → sizesGo (A + b.instrs.length) (f.blocks.drop (k + 1)) = sizesB f) := by
        intro h h2
        rw [← HK'.out]
        conv => rhs; unfold sizesGo
        rw [if_neg h, if_pos h2]
      clear HK'
      go_upto_region 8 with fail
      rw [← HW1.out]
      clear c0 c1 c2 f0_0' f0_1'
      by_cases p5 : 5 < b.params.length
      · have g5 : (5 : Int) < (b.params.length : Int) := by omega
        have H : Hid (1 = r) := HBAD.out (Or.inr (blkFits_false (Or.inl p5)))
        go_wp2
        go_ret
        exact ⟨ret_int H.out, hbw1⟩
      have g5 : ¬ (5 : Int) < (b.params.length : Int) := by omega
      by_cases i40 : 40 < b.instrs.length
      · have g40 : (40 : Int) < (b.instrs.length : Int) := by omega
        have H : Hid (1 = r) := HBAD.out (Or.inr (blkFits_false (Or.inr (Or.inl i40))))
        go_wp2
        go_ret
        exact ⟨ret_int H.out, hbw1⟩
      have g40 : ¬ (40 : Int) < (b.instrs.length : Int) := by omega
      by_cases e3 : 3 < b.edges.length
      · have ge3 : (3 : Int) < (b.edges.length : Int) := by omega
        have H : Hid (1 = r) := HBAD.out (Or.inr (blkFits_false (Or.inr (Or.inr (Or.inl e3)))))
        go_wp2
        go_ret
        exact ⟨ret_int H.out, hbw1⟩
      have ge3 : ¬ (3 : Int) < (b.edges.length : Int) := by omega
      by_cases a160 : 160 < A + b.instrs.length
      · have ga : (160 : Int) < (A : Int) + (b.instrs.length : Int) := by omega
        have H : Hid (1 = r) := HBAD.out (Or.inl a160)
        go_wp2
        go_ret
        exact ⟨ret_int H.out, hbw1⟩
      have ga : ¬ (160 : Int) < (A : Int) + (b.instrs.length : Int) := by omega
      go_wp2
      go_loop [6] (fun t => ∃ q : Nat, q ≤ b.instrs.length ∧ t = .int .i64 q ∧ Hid ((b.instrs.take q).all insFits = true)) (fun t => b.instrs.length - (intOf t).toNat)
      case atStart => exact ⟨0, Nat.zero_le _, rfl, rfl⟩
      case round =>
        obtain ⟨q, hq, rfl, HQ⟩ := hrel
        by_cases hltq : q < b.instrs.length
        · obtain ⟨b7, off7, cs, rfl, hcl7, ⟨vo, vs, rfl, ho7, hs7⟩, hc7⟩ := hi1.at q hltq
          obtain ⟨ao, co, rfl, lo⟩ := ho7.out
          obtain ⟨asp, csp, rfl, lsp⟩ := hs7.out
          unfold longest at lo lsp
          have e1 := hc7 1 (by simp)
          have e2 := hc7 2 (by simp)
          simp at e1 e2
          clear hc7 hcl7 ho7 hs7
          by_cases o6 : 6 < b.instrs[q].operands.length
          · have g6 : (6 : Int) < (b.instrs[q].operands.length : Int) := by omega
            have H : Hid (1 = r) := HBAD.out (Or.inr (blkFits_false (Or.inr (Or.inr (Or.inr (all_not _ _ _ hltq (by simp [insFits]; omega)))))))
            go_wp2
            go_ret
            exact ⟨ret_int H.out, hbw1⟩
          have g6 : ¬ (6 : Int) < (b.instrs[q].operands.length : Int) := by omega
          by_cases s20 : 20 < b.instrs[q].spoils.length
          · have g20 : (20 : Int) < (b.instrs[q].spoils.length : Int) := by omega
            have H : Hid (1 = r) := HBAD.out (Or.inr (blkFits_false (Or.inr (Or.inr (Or.inr (all_not _ _ _ hltq (by simp [insFits]; omega)))))))
            go_wp2
            go_ret
            exact ⟨ret_int H.out, hbw1⟩
          have g20 : ¬ (20 : Int) < (b.instrs[q].spoils.length : Int) := by omega
          have H : Hid ((b.instrs.take (q + 1)).all insFits = true) := all_snoc _ _ _ hltq HQ.out (by simp [insFits]; omega)
          clear HQ
          go_wp2
          go_round
          case rel => exact ⟨q + 1, by omega, by go_num, H⟩
          case measure => simp [intOf]; omega
        · have hall := all_done _ _ q (by omega) HQ.out
          have H : Hid (sizesGo (A + b.instrs.length) (f.blocks.drop (k + 1)) = sizesB f) := HGOOD.out a160 (blkFits_true (by omega) (by omega) (by omega) hall)
          clear HQ hall
          go_wp2
          go_roundw
          case rel => exact ⟨k + 1, A + b.instrs.length, by omega, by omega, by go_num, by go_num, hbW1, H⟩
          case measure => simp [intOf]; omega
    · have H : Hid (0 = r) := HB0.out (by
        rw [← HK.out, List.drop_of_length_le (by omega)]
        rfl)
      clear HK
      go_wp2
      go_ret
      exact ⟨ret_int H.out, hbwr⟩
end Go.Proofs.Ytnghhhlcifpiaaa
