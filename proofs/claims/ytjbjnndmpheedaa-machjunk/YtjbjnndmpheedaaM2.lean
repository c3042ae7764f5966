/-
  The contracts of 'edits' and 'Check' of mach (P5.1, P5.2).
-/
import Derived.Test.YtjbjnndmpheedaaM1
namespace Go.Proofs.Ytjbjnndmpheedaa
open Go.RowKit
set_option linter.unusedVariables false

set_option maxRecDepth 4000 in
set_option maxHeartbeats 8000000 in
theorem edits_is (bs : List Blk) (l : List Ed) (m0 m1 fr : Int) (av ab ap ae : Option Addr) (nv nb np ne cv cb cp ce : Nat) (r : Int) (h : editsErr m0 m1 fr bs l = r) (hm0 : 0 ≤ m0 ∧ m0 ≤ 1000) (hm1 : 0 ≤ m1 ∧ m1 ≤ 1000) (w : World) (hnb : bs.length = nb) (hne : l.length = ne) (hs : SlOf w 3 (RBlk w) (.slice ab nb cb) bs) (hl : SlOf w 3 (REd w) (.slice ae ne ce) l) :
    Calls Try.prog 20 #[.agg #[.slice av nv cv, .slice ab nb cb, .int .i64 m0, .int .i64 m1, .slice ap np cp, .slice ae ne ce, .int .i64 fr]] w fun e w' => e = .returned (.int .i64 r) ∧ Below w.heap.size w w' := by
  obtain ⟨W, hW⟩ : ∃ W, W = w.alloc (.cells #[.slice av nv cv, .slice ab nb cb, .int .i64 m0, .int .i64 m1, .slice ap np cp, .slice ae ne ce, .int .i64 fr] 69) := ⟨_, rfl⟩
  have hbw : Below w.heap.size w W := by rw [hW]; exact (Below.refl _ _).alloc (Nat.le_refl _) _
  have zW : w.heap.size < W.heap.size := by rw [hW]; simp
  have t0 := top_at w #[.slice av nv cv, .slice ab nb cb, .int .i64 m0, .int .i64 m1, .slice ap np cp, .slice ae ne ce, .int .i64 fr] 69
  rw [← hW] at t0
  have HW : Hid (W = w.alloc (.cells #[.slice av nv cv, .slice ab nb cb, .int .i64 m0, .int .i64 m1, .slice ap np cp, .slice ae ne ce, .int .i64 fr] 69)) := hW
  have HS : Hid (∀ w', Below W.heap.size W w' → w'.cell? ⟨w.heap.size, 0, none⟩ = some (.slice av nv cv) ∧ w'.cell? ⟨w.heap.size, 1, none⟩ = some (.slice ab nb cb) ∧ w'.cell? ⟨w.heap.size, 2, none⟩ = some (.int .i64 m0) ∧ w'.cell? ⟨w.heap.size, 3, none⟩ = some (.int .i64 m1) ∧ w'.cell? ⟨w.heap.size, 4, none⟩ = some (.slice ap np cp) ∧ w'.cell? ⟨w.heap.size, 5, none⟩ = some (.slice ae ne ce) ∧ w'.cell? ⟨w.heap.size, 6, none⟩ = some (.int .i64 fr)) := fun w' hh => ⟨(hh.cell (p := ⟨w.heap.size, 0, none⟩) (by simp; omega)).trans (t0 0), (hh.cell (p := ⟨w.heap.size, 1, none⟩) (by simp; omega)).trans (t0 1), (hh.cell (p := ⟨w.heap.size, 2, none⟩) (by simp; omega)).trans (t0 2), (hh.cell (p := ⟨w.heap.size, 3, none⟩) (by simp; omega)).trans (t0 3), (hh.cell (p := ⟨w.heap.size, 4, none⟩) (by simp; omega)).trans (t0 4), (hh.cell (p := ⟨w.heap.size, 5, none⟩) (by simp; omega)).trans (t0 5), (hh.cell (p := ⟨w.heap.size, 6, none⟩) (by simp; omega)).trans (t0 6)⟩
  clear hW t0

  have HB : Hid (SlOf W 3 (RBlk W) (.slice ab nb cb) bs) := hs.below hbw (RBlk.below hbw)
  have HL : Hid (SlOf W 3 (REd W) (.slice ae ne ce) l) := hl.below hbw (REd.below hbw)
  have HNB : Hid (bs.length = nb) := hnb
  have HNE : Hid (l.length = ne) := hne
  have lne : ne ≤ 140737488355328 := by obtain ⟨_, _, _, hh⟩ := hl.out; rw [hne] at hh; exact hh
  have HM : Hid ((0 ≤ m0 ∧ m0 ≤ 1000) ∧ (0 ≤ m1 ∧ m1 ≤ 1000)) := ⟨hm0, hm1⟩
  have HR : Hid (editsGo m0 m1 fr bs (prevOf l 0) 0 (l.drop 0) = r) := h
  obtain ⟨q0, q1, q2, q3, q4, q5, q6⟩ := HS.out W (Below.refl _ _)
  clear hs hl hnb hne h hm0 hm1
  go_enter Try.func20, Try.ntmps20
  go_upto_region 1 with fail
  rw [← HW.out]
  go_wp2_with fail
  clear HW q0 q1 q2 q3 q4 q5 q6
  go_loopw [3, 13] (fun t x wr => ∃ (i : Nat) (tot : Int), t = .int .i64 tot ∧ x = .int .i64 i ∧ i ≤ ne ∧ Hid (0 ≤ tot ∧ tot ≤ 20000 ∧ Below W.heap.size W wr ∧ editsGo m0 m1 fr bs (prevOf l i) tot (l.drop i) = r)) (fun _ x _ => ne - (intOf x).toNat)
  case atStart => exact ⟨0, 0, rfl, rfl, Nat.zero_le _, by omega, by omega, Below.refl _ _, HR.out⟩
  case round =>
    clear HR
    obtain ⟨i, tot, rfl, rfl, hi, HK⟩ := hrel
    obtain ⟨wo, hwo⟩ : ∃ wo, wo = wr := ⟨_, rfl⟩
    subst hwo
    have HBo : Hid (Below W.heap.size W wo) := HK.out.2.2.1
    obtain ⟨q0, q1, q2, q3, q4, q5, q6⟩ := HS.out _ HBo.out
    have lW : w.heap.size < wo.heap.size := Nat.lt_of_lt_of_le zW HBo.out.size
    by_cases hlt : i < ne
    · have hil : i < l.length := by rw [HNE.out]; exact hlt
      obtain ⟨be, offe, am, cm, rfl, hbe, e0, e1, e2, lm, hm⟩ := ed_cell (HL.out.below HBo.out (REd.below HBo.out)) i hil
      have HGO : Hid ((if edErr m0 m1 fr bs (prevOf l i) tot l[i] = 0 then editsGo m0 m1 fr bs (prevOf l (i + 1)) (tot + (l[i].moves.length : Int)) (l.drop (i + 1)) else edErr m0 m1 fr bs (prevOf l i) tot l[i]) = r) := (editsGo_at hil).symm.trans HK.out.2.2.2
      obtain ⟨t0, t1⟩ : 0 ≤ tot ∧ tot ≤ 20000 := ⟨HK.out.1, HK.out.2.1⟩
      have HPR : Hid (0 < i → ∃ (p : Ed) (am2 : Option Addr) (cm2 : Nat), prevOf l i = some p ∧ ∀ w', Below W.heap.size W w' → w'.cell? ⟨be, offe + (i - 1) * 3, none⟩ = some (.int .i64 p.block) ∧ w'.cell? ⟨be, offe + (i - 1) * 3 + 1, none⟩ = some (.int .i64 p.pos) ∧ w'.cell? ⟨be, offe + (i - 1) * 3 + 1 + 1, none⟩ = some (.slice am2 p.moves.length cm2)) := fun hp => by
        have hi1 : i - 1 < l.length := by omega
        obtain ⟨b', off', am2, cm2, he, hb', a0, a1, a2, _, _⟩ := ed_cell HL.out (i - 1) hi1
        simp only [Option.some.injEq, Addr.mk.injEq] at he
        obtain ⟨rfl, rfl, _⟩ := he
        exact ⟨l[i - 1], am2, cm2, prevOf_pos hp hi1, fun w' hh => ⟨(hh.cell (p := ⟨be, offe + (i - 1) * 3, none⟩) hb').trans a0, (hh.cell (p := ⟨be, offe + (i - 1) * 3 + 1, none⟩) hb').trans a1, (hh.cell (p := ⟨be, offe + (i - 1) * 3 + 1 + 1, none⟩) hb').trans a2⟩⟩
      have HMV : Hid (SlOf wo 6 RMv (.slice am l[i].moves.length cm) l[i].moves) := hm
      clear hm HK
      generalize l[i] = e at *
      obtain ⟨W4, hW4⟩ : ∃ W4, W4 = wo.alloc (.cells #[.int .i64 e.block, .int .i64 e.pos, .slice am e.moves.length cm] 51) := ⟨_, rfl⟩
      obtain ⟨P, hP⟩ : ∃ P, wo.heap.size = P := ⟨_, rfl⟩
      have hb4 : Below wo.heap.size wo W4 := by rw [hW4]; exact (Below.refl _ _).alloc (Nat.le_refl _) _
      have s4 := top_at wo #[.int .i64 e.block, .int .i64 e.pos, .slice am e.moves.length cm] 51
      rw [← hW4, hP] at s4
      have HY : Hid (∀ w', Below W4.heap.size W4 w' → w'.cell? ⟨P, 0, none⟩ = some (.int .i64 e.block) ∧ w'.cell? ⟨P, 1, none⟩ = some (.int .i64 e.pos) ∧ w'.cell? ⟨P, 2, none⟩ = some (.slice am e.moves.length cm) ∧ P < w'.heap.size) := fun w' hh => ⟨(hh.cell (p := ⟨P, 0, none⟩) (block_lt (s4 0))).trans (s4 0), (hh.cell (p := ⟨P, 1, none⟩) (block_lt (s4 0))).trans (s4 1), (hh.cell (p := ⟨P, 2, none⟩) (block_lt (s4 0))).trans (s4 2), Nat.lt_of_lt_of_le (block_lt (s4 0)) hh.size⟩
      have HW4 : Hid (W4 = wo.alloc (.cells #[.int .i64 e.block, .int .i64 e.pos, .slice am e.moves.length cm] 51)) := hW4
      have HP : Hid (wo.heap.size = P) := hP
      have HB4 : Hid (Below W.heap.size W W4) := HBo.out.trans (hb4.mono HBo.out.size)
      have HO4 : Hid (Below wo.heap.size wo W4) := hb4
      obtain ⟨sv, hsv⟩ : ∃ sv, isSpotB bs e = sv := ⟨_, rfl⟩
      have HSV : Hid (isSpotB bs e = sv) := hsv
      have HCA := isSpot_is bs nb e (.slice am e.moves.length cm) m0 m1 fr av ab ap (some ⟨be, offe, none⟩) nv np ne cv cb cp ce sv hsv W4 HNB.out (HB.out.below HB4.out (RBlk.below HB4.out))
      clear hW4 hP s4 hb4 hsv
      go_upto_region 5 with fail
      rw [← HW4.out, HP.out]
      clear HW4 HP q0 q1 q2 q3 q4 q5 q6 lW e0 e1 e2 hbe
      obtain ⟨q0, q1, q2, q3, q4, q5, q6⟩ := HS.out _ HB4.out
      have lW : w.heap.size < W4.heap.size := Nat.lt_of_lt_of_le zW HB4.out.size
      obtain ⟨y0, y1, y2, lP⟩ := HY.out _ (Below.refl _ _)
      go_wp2_with fail
      refine HCA.mono ?_
      clear HCA
      rintro x w5 ⟨rfl, hb5⟩
      have HB5 : Hid (Below W4.heap.size W4 w5) := hb5
      have HBW5 : Hid (Below W.heap.size W w5) := HB4.out.trans (hb5.mono HB4.out.size)
      clear q0 q1 q2 q3 q4 q5 q6 lW y0 y1 y2 lP hb5
      obtain ⟨q0, q1, q2, q3, q4, q5, q6⟩ := HS.out _ HBW5.out
      have lW : w.heap.size < w5.heap.size := Nat.lt_of_lt_of_le zW HBW5.out.size
      obtain ⟨y0, y1, y2, lP⟩ := HY.out _ HB5.out
      cases sv
      case false =>
        have H : Hid (2 = r) := by
          show _ = _
          have hE : edErr m0 m1 fr bs (prevOf l i) tot e = 2 := by unfold edErr; rw [if_pos HSV.out]
          rw [← HGO.out, hE]
          rfl
        go_wp2
        go_ret
        exact ⟨ret_int H.out, hbw.trans (HBW5.out.mono hbw.size)⟩
      case true =>
        obtain ⟨bv, hbv⟩ : ∃ bv, nextB (prevOf l i) e = bv := ⟨_, rfl⟩
        have HBV : Hid (nextB (prevOf l i) e = bv) := hbv
        clear hbv
        have hbd : Below w5.heap.size w5 w5.drew := (Below.refl _ _).drew
        go_upto_region 7 with fail
        go_cut [35] (fun v wz => v = .bool (!bv) ∧ Below w5.heap.size w5 wz)
        case first =>
          by_cases hi0 : i = 0
          · subst hi0
            have hbt : bv = true := by rw [← HBV.out]; rfl
            subst hbt
            clear HPR
            have HSk : Hid (∀ w', Below w5.heap.size w5 w' → (fun w' => w'.cell? ⟨w.heap.size, 0, none⟩ = some (.slice av nv cv) ∧ w'.cell? ⟨w.heap.size, 1, none⟩ = some (.slice ab nb cb) ∧ w'.cell? ⟨w.heap.size, 2, none⟩ = some (.int .i64 m0) ∧ w'.cell? ⟨w.heap.size, 3, none⟩ = some (.int .i64 m1) ∧ w'.cell? ⟨w.heap.size, 4, none⟩ = some (.slice ap np cp) ∧ w'.cell? ⟨w.heap.size, 5, none⟩ = some (.slice (some ⟨be, offe, none⟩) ne ce) ∧ w'.cell? ⟨w.heap.size, 6, none⟩ = some (.int .i64 fr) ∧ w'.cell? ⟨P, 0, none⟩ = some (.int .i64 e.block) ∧ w'.cell? ⟨P, 1, none⟩ = some (.int .i64 e.pos) ∧ w'.cell? ⟨P, 2, none⟩ = some (.slice am e.moves.length cm) ∧ Below w5.heap.size w5 w') w') := fun w' hh => ⟨(hh.cell (by simp; omega)).trans q0, (hh.cell (by simp; omega)).trans q1, (hh.cell (by simp; omega)).trans q2, (hh.cell (by simp; omega)).trans q3, (hh.cell (by simp; omega)).trans q4, (hh.cell (by simp; omega)).trans q5, (hh.cell (by simp; omega)).trans q6, (hh.cell (by simp; omega)).trans y0, (hh.cell (by simp; omega)).trans y1, (hh.cell (by simp; omega)).trans y2, hh⟩
            refine wp_region_X (fun w' => w'.cell? ⟨w.heap.size, 0, none⟩ = some (.slice av nv cv) ∧ w'.cell? ⟨w.heap.size, 1, none⟩ = some (.slice ab nb cb) ∧ w'.cell? ⟨w.heap.size, 2, none⟩ = some (.int .i64 m0) ∧ w'.cell? ⟨w.heap.size, 3, none⟩ = some (.int .i64 m1) ∧ w'.cell? ⟨w.heap.size, 4, none⟩ = some (.slice ap np cp) ∧ w'.cell? ⟨w.heap.size, 5, none⟩ = some (.slice (some ⟨be, offe, none⟩) ne ce) ∧ w'.cell? ⟨w.heap.size, 6, none⟩ = some (.int .i64 fr) ∧ w'.cell? ⟨P, 0, none⟩ = some (.int .i64 e.block) ∧ w'.cell? ⟨P, 1, none⟩ = some (.int .i64 e.pos) ∧ w'.cell? ⟨P, 2, none⟩ = some (.slice am e.moves.length cm) ∧ Below w5.heap.size w5 w') 99 (by kernel_rfl) (HSk.out _ hbd) (fun hHeld => ?_)
            refine wpXt (v := ?_) 0 rfl (by kernel_rfl) (fun _ _ _ h => h) (by rfl) ?_ hHeld ?_
            rotate_left
            · intro w' hSw
              go_simp <;> with_reducible rfl
            try simp only [Act.put, List.setIfInBounds_toArray, List.set_cons_zero, List.set_cons_succ]
            refine wpXt (v := ?_) 1 rfl (by kernel_rfl) (fun _ _ _ h => h) (by rfl) ?_ hHeld ?_
            rotate_left
            · intro w' hSw
              go_simp <;> with_reducible rfl
            try simp only [Act.put, List.setIfInBounds_toArray, List.set_cons_zero, List.set_cons_succ]
            refine wpXt (v := ?_) 2 rfl (by kernel_rfl) (fun _ _ _ h => h) (by rfl) ?_ hHeld ?_
            rotate_left
            · intro w' hSw
              go_simp <;> with_reducible rfl
            try simp only [Act.put, List.setIfInBounds_toArray, List.set_cons_zero, List.set_cons_succ]
            refine wpXk 3 rfl (by kernel_rfl) (fun _ _ _ h => h) (by rfl) hHeld ?_
            try simp only [Act.put, List.setIfInBounds_toArray, List.set_cons_zero, List.set_cons_succ]
            refine wpXk 4 rfl (by kernel_rfl) (fun _ _ _ h => h) (by rfl) hHeld ?_
            try simp only [Act.put, List.setIfInBounds_toArray, List.set_cons_zero, List.set_cons_succ]
            refine wpXk 5 rfl (by kernel_rfl) (fun _ _ _ h => h) (by rfl) hHeld ?_
            try simp only [Act.put, List.setIfInBounds_toArray, List.set_cons_zero, List.set_cons_succ]
            refine wpXk 6 rfl (by kernel_rfl) (fun _ _ _ h => h) (by rfl) hHeld ?_
            try simp only [Act.put, List.setIfInBounds_toArray, List.set_cons_zero, List.set_cons_succ]
            refine wpXk 7 rfl (by kernel_rfl) (fun _ _ _ h => h) (by rfl) hHeld ?_
            try simp only [Act.put, List.setIfInBounds_toArray, List.set_cons_zero, List.set_cons_succ]
            refine wpXk 8 rfl (by kernel_rfl) (fun _ _ _ h => h) (by rfl) hHeld ?_
            try simp only [Act.put, List.setIfInBounds_toArray, List.set_cons_zero, List.set_cons_succ]
            refine wpXk 9 rfl (by kernel_rfl) (fun _ _ _ h => h) (by rfl) hHeld ?_
            try simp only [Act.put, List.setIfInBounds_toArray, List.set_cons_zero, List.set_cons_succ]
            refine wpXk 10 rfl (by kernel_rfl) (fun _ _ _ h => h) (by rfl) hHeld ?_
            try simp only [Act.put, List.setIfInBounds_toArray, List.set_cons_zero, List.set_cons_succ]
            refine wpXk 11 rfl (by kernel_rfl) (fun _ _ _ h => h) (by rfl) hHeld ?_
            try simp only [Act.put, List.setIfInBounds_toArray, List.set_cons_zero, List.set_cons_succ]
            refine wpXk 12 rfl (by kernel_rfl) (fun _ _ _ h => h) (by rfl) hHeld ?_
            try simp only [Act.put, List.setIfInBounds_toArray, List.set_cons_zero, List.set_cons_succ]
            refine wpXs 13 rfl (by kernel_rfl) (fun K hK => ?_)
            go_simp
            refine hK.out _ _ (HSk.out _ hbd) (fun hHeld => ?_)
            clear hK K
            try simp only [Act.put, List.setIfInBounds_toArray, List.set_cons_zero, List.set_cons_succ]
            refine wpAnyX_done (by kernel_rfl) ?_ _
            go_wp2
            go_meet
            exact ⟨rfl, hbd⟩
          · have hi1 : 0 < i := by omega
            obtain ⟨p, am2, cm2, hpe, hpc⟩ := HPR.out hi1
            obtain ⟨z0, z1, z2⟩ := hpc w5 HBW5.out
            have hbe := block_lt z0
            have hbb : behindB e p = bv := by rw [← HBV.out, hpe]; rfl
            have HCA := isBehind_is e p (.slice am e.moves.length cm) (.slice am2 p.moves.length cm2) bv hbb w5.drew
            have g1 : (0 : Int) < (i : Int) := by omega
            have g1' : decide ((0 : Int) < (i : Int)) = true := decide_eq_true g1
            have g2' : decide (0 < i) = true := decide_eq_true hi1
            have j1 : IntKind.i64.wrap ((i : Int) - 1) = (i : Int) - 1 := by rw [IntKind.wrap_i64]; omega
            have j2 : 1 ≤ i := hi1
            have j3 : i < ne + 1 := by omega
            have j4 : (i : Int) - 1 < (ne : Int) := by omega
            have j6 : (1 : Int) ≤ (i : Int) := by omega
            clear hpe hpc hbb hi0
            have HSk : Hid (∀ w', Below w5.heap.size w5 w' → (fun w' => w'.cell? ⟨w.heap.size, 0, none⟩ = some (.slice av nv cv) ∧ w'.cell? ⟨w.heap.size, 1, none⟩ = some (.slice ab nb cb) ∧ w'.cell? ⟨w.heap.size, 2, none⟩ = some (.int .i64 m0) ∧ w'.cell? ⟨w.heap.size, 3, none⟩ = some (.int .i64 m1) ∧ w'.cell? ⟨w.heap.size, 4, none⟩ = some (.slice ap np cp) ∧ w'.cell? ⟨w.heap.size, 5, none⟩ = some (.slice (some ⟨be, offe, none⟩) ne ce) ∧ w'.cell? ⟨w.heap.size, 6, none⟩ = some (.int .i64 fr) ∧ w'.cell? ⟨P, 0, none⟩ = some (.int .i64 e.block) ∧ w'.cell? ⟨P, 1, none⟩ = some (.int .i64 e.pos) ∧ w'.cell? ⟨P, 2, none⟩ = some (.slice am e.moves.length cm) ∧ w'.cell? ⟨be, offe + (i - 1) * 3, none⟩ = some (.int .i64 p.block) ∧ w'.cell? ⟨be, offe + (i - 1) * 3 + 1, none⟩ = some (.int .i64 p.pos) ∧ w'.cell? ⟨be, offe + (i - 1) * 3 + 1 + 1, none⟩ = some (.slice am2 p.moves.length cm2) ∧ Below w5.heap.size w5 w') w') := fun w' hh => ⟨(hh.cell (by simp; omega)).trans q0, (hh.cell (by simp; omega)).trans q1, (hh.cell (by simp; omega)).trans q2, (hh.cell (by simp; omega)).trans q3, (hh.cell (by simp; omega)).trans q4, (hh.cell (by simp; omega)).trans q5, (hh.cell (by simp; omega)).trans q6, (hh.cell (by simp; omega)).trans y0, (hh.cell (by simp; omega)).trans y1, (hh.cell (by simp; omega)).trans y2, (hh.cell (by simp; omega)).trans z0, (hh.cell (by simp; omega)).trans z1, (hh.cell (by simp; omega)).trans z2, hh⟩
            refine wp_region_X (fun w' => w'.cell? ⟨w.heap.size, 0, none⟩ = some (.slice av nv cv) ∧ w'.cell? ⟨w.heap.size, 1, none⟩ = some (.slice ab nb cb) ∧ w'.cell? ⟨w.heap.size, 2, none⟩ = some (.int .i64 m0) ∧ w'.cell? ⟨w.heap.size, 3, none⟩ = some (.int .i64 m1) ∧ w'.cell? ⟨w.heap.size, 4, none⟩ = some (.slice ap np cp) ∧ w'.cell? ⟨w.heap.size, 5, none⟩ = some (.slice (some ⟨be, offe, none⟩) ne ce) ∧ w'.cell? ⟨w.heap.size, 6, none⟩ = some (.int .i64 fr) ∧ w'.cell? ⟨P, 0, none⟩ = some (.int .i64 e.block) ∧ w'.cell? ⟨P, 1, none⟩ = some (.int .i64 e.pos) ∧ w'.cell? ⟨P, 2, none⟩ = some (.slice am e.moves.length cm) ∧ w'.cell? ⟨be, offe + (i - 1) * 3, none⟩ = some (.int .i64 p.block) ∧ w'.cell? ⟨be, offe + (i - 1) * 3 + 1, none⟩ = some (.int .i64 p.pos) ∧ w'.cell? ⟨be, offe + (i - 1) * 3 + 1 + 1, none⟩ = some (.slice am2 p.moves.length cm2) ∧ Below w5.heap.size w5 w') 99 (by kernel_rfl) (HSk.out _ hbd) (fun hHeld => ?_)
            refine wpXt (v := ?_) 0 rfl (by kernel_rfl) (fun _ _ _ h => h) (by rfl) ?_ hHeld ?_
            rotate_left
            · intro w' hSw
              go_simp <;> with_reducible rfl
            try simp only [Act.put, List.setIfInBounds_toArray, List.set_cons_zero, List.set_cons_succ]
            refine wpXt (v := ?_) 1 rfl (by kernel_rfl) (fun _ _ _ h => h) (by rfl) ?_ hHeld ?_
            rotate_left
            · intro w' hSw
              go_simp <;> with_reducible rfl
            try simp only [Act.put, List.setIfInBounds_toArray, List.set_cons_zero, List.set_cons_succ]
            refine wpXt (v := ?_) 2 rfl (by kernel_rfl) (fun _ _ _ h => h) (by rfl) ?_ hHeld ?_
            rotate_left
            · intro w' hSw
              go_simp <;> with_reducible rfl
            try simp only [Act.put, List.setIfInBounds_toArray, List.set_cons_zero, List.set_cons_succ]
            refine wpXt (v := ?_) 3 rfl (by kernel_rfl) (fun _ _ _ h => h) (by rfl) ?_ hHeld ?_
            rotate_left
            · intro w' hSw
              go_simp <;> with_reducible rfl
            try simp only [Act.put, List.setIfInBounds_toArray, List.set_cons_zero, List.set_cons_succ]
            refine wpXt (v := ?_) 4 rfl (by kernel_rfl) (fun _ _ _ h => h) (by rfl) ?_ hHeld ?_
            rotate_left
            · intro w' hSw
              go_simp <;> with_reducible rfl
            try simp only [Act.put, List.setIfInBounds_toArray, List.set_cons_zero, List.set_cons_succ]
            refine wpXt (v := ?_) 5 rfl (by kernel_rfl) (fun _ _ _ h => h) (by rfl) ?_ hHeld ?_
            rotate_left
            · intro w' hSw
              go_simp <;> with_reducible rfl
            try simp only [Act.put, List.setIfInBounds_toArray, List.set_cons_zero, List.set_cons_succ]
            refine wpXt (v := ?_) 6 rfl (by kernel_rfl) (fun _ _ _ h => h) (by rfl) ?_ hHeld ?_
            rotate_left
            · intro w' hSw
              go_simp <;> with_reducible rfl
            try simp only [Act.put, List.setIfInBounds_toArray, List.set_cons_zero, List.set_cons_succ]
            refine wpXt (v := ?_) 7 rfl (by kernel_rfl) (fun _ _ _ h => h) (by rfl) ?_ hHeld ?_
            rotate_left
            · intro w' hSw
              go_simp <;> with_reducible rfl
            try simp only [Act.put, List.setIfInBounds_toArray, List.set_cons_zero, List.set_cons_succ]
            refine wpXt (v := ?_) 8 rfl (by kernel_rfl) (fun _ _ _ h => h) (by rfl) ?_ hHeld ?_
            rotate_left
            · intro w' hSw
              go_simp <;> with_reducible rfl
            try simp only [Act.put, List.setIfInBounds_toArray, List.set_cons_zero, List.set_cons_succ]
            refine wpXt (v := ?_) 9 rfl (by kernel_rfl) (fun _ _ _ h => h) (by rfl) ?_ hHeld ?_
            rotate_left
            · intro w' hSw
              go_simp <;> with_reducible rfl
            try simp only [Act.put, List.setIfInBounds_toArray, List.set_cons_zero, List.set_cons_succ]
            refine wpXt (v := ?_) 10 rfl (by kernel_rfl) (fun _ _ _ h => h) (by rfl) ?_ hHeld ?_
            rotate_left
            · intro w' hSw
              go_simp <;> with_reducible rfl
            try simp only [Act.put, List.setIfInBounds_toArray, List.set_cons_zero, List.set_cons_succ]
            refine wpXs 11 rfl (by kernel_rfl) (fun K hK => ?_)
            go_simp
            refine HCA.mono ?_
            rintro e wn ⟨rfl, hbn0⟩
            have hbn : Below w5.heap.size w5 wn := hbd.trans (hbn0.mono hbd.size)
            refine hK.out _ _ (HSk.out _ hbn) (fun hHeld => ?_)
            clear hK K
            try simp only [Act.put, List.setIfInBounds_toArray, List.set_cons_zero, List.set_cons_succ]
            refine wpXt (v := ?_) 12 rfl (by kernel_rfl) (fun _ _ _ h => h) (by rfl) ?_ hHeld ?_
            rotate_left
            · intro w' hSw
              go_simp <;> with_reducible rfl
            try simp only [Act.put, List.setIfInBounds_toArray, List.set_cons_zero, List.set_cons_succ]
            refine wpXs 13 rfl (by kernel_rfl) (fun K hK => ?_)
            go_simp
            refine hK.out _ _ (HSk.out _ hbn) (fun hHeld => ?_)
            clear hK K
            try simp only [Act.put, List.setIfInBounds_toArray, List.set_cons_zero, List.set_cons_succ]
            refine wpAnyX_done (by kernel_rfl) ?_ _
            go_wp2
            go_meet
            exact ⟨rfl, hbn⟩
        case rest =>
          obtain ⟨rfl, hbz⟩ := hcut
          have HB6 : Hid (Below W4.heap.size W4 wc) := HB5.out.trans (hbz.mono HB5.out.size)
          have HBW6 : Hid (Below W.heap.size W wc) := HBW5.out.trans (hbz.mono HBW5.out.size)
          clear q0 q1 q2 q3 q4 q5 q6 lW y0 y1 y2 lP hbz hbd
          obtain ⟨y0, y1, y2, lP⟩ := HY.out _ HB6.out
          cases bv
          case false =>
            have H : Hid (4 = r) := by
              show _ = _
              have hE : edErr m0 m1 fr bs (prevOf l i) tot e = 4 := by unfold edErr; rw [if_neg (by rw [HSV.out]; simp), if_pos HBV.out]
              rw [← HGO.out, hE]
              rfl
            go_wp2
            go_ret
            exact ⟨ret_int H.out, hbw.trans (HBW6.out.mono hbw.size)⟩
          case true =>
            have j1 : IntKind.i64.wrap (tot + (e.moves.length : Int)) = tot + (e.moves.length : Int) := by rw [IntKind.wrap_i64]; omega
            by_cases hbig : 20000 < tot + (e.moves.length : Int)
            · have H : Hid (1 = r) := by
                show _ = _
                have hE : edErr m0 m1 fr bs (prevOf l i) tot e = 1 := by unfold edErr; rw [if_neg (by rw [HSV.out]; simp), if_neg (by rw [HBV.out]; simp), if_pos hbig]
                rw [← HGO.out, hE]
                rfl
              go_wp2
              go_ret
              exact ⟨ret_int H.out, hbw.trans (HBW6.out.mono hbw.size)⟩
            · have HEE : Hid (edErr m0 m1 fr bs (prevOf l i) tot e = firstE (mvErr m0 m1 fr) e.moves) := by
                show _ = _
                unfold edErr
                rw [if_neg (by rw [HSV.out]; simp), if_neg (by rw [HBV.out]; simp), if_neg hbig]
              have HTO : Hid (0 ≤ tot + (e.moves.length : Int) ∧ tot + (e.moves.length : Int) ≤ 20000) := by show _ ∧ _; omega
              have HMC : Hid (SlOf wc 6 RMv (.slice am e.moves.length cm) e.moves) := by
                have hh : Below wo.heap.size wo wc := HO4.out.trans (HB6.out.mono HO4.out.size)
                exact HMV.out.below hh fun _ _ h => h
              go_wp2
              clear y0 y1 y2 lP hbig j1 t0 t1
              go_loopw [46] (fun x wr => ∃ j : Nat, x = .int .i64 j ∧ j ≤ e.moves.length ∧ Hid (Below wc.heap.size wc wr ∧ firstE (mvErr m0 m1 fr) (e.moves.drop j) = firstE (mvErr m0 m1 fr) e.moves)) (fun x _ => e.moves.length - (intOf x).toNat)
              case atStart => exact ⟨0, rfl, Nat.zero_le _, Below.refl _ _, rfl⟩
              case round =>
                obtain ⟨j, rfl, hj, HJ⟩ := hrel
                have HBr : Hid (Below W.heap.size W wr) := HBW6.out.trans (HJ.out.1.mono HBW6.out.size)
                obtain ⟨q0, q1, q2, q3, q4, q5, q6⟩ := HS.out _ HBr.out
                have lW : w.heap.size < wr.heap.size := Nat.lt_of_lt_of_le zW HBr.out.size
                by_cases hltj : j < e.moves.length
                · obtain ⟨bm, offm, rfl, hbm, d0, d1, d2, d3, d4, d5⟩ := mv_cell (HMC.out.below HJ.out.1 fun _ _ h => h) j hltj
                  obtain ⟨er, her⟩ : ∃ er, mvErr m0 m1 fr e.moves[j] = er := ⟨_, rfl⟩
                  have HJN : Hid (er = 0 → firstE (mvErr m0 m1 fr) (e.moves.drop (j + 1)) = firstE (mvErr m0 m1 fr) e.moves) := fun h0 => firstE_next hltj rfl (her.trans h0) HJ.out.2
                  have HJE : Hid (er ≠ 0 → firstE (mvErr m0 m1 fr) e.moves = er) := fun h0 => firstE_here hltj rfl her h0 HJ.out.2
                  generalize e.moves[j] = v at *
                  obtain ⟨W7, hW7⟩ : ∃ W7, W7 = wr.alloc (.cells #[.int .i64 v.src.kind, .int .i64 v.src.cls, .int .i64 v.src.n, .int .i64 v.dst.kind, .int .i64 v.dst.cls, .int .i64 v.dst.n] 48) := ⟨_, rfl⟩
                  have hb7 : Below wr.heap.size wr W7 := by rw [hW7]; exact (Below.refl _ _).alloc (Nat.le_refl _) _
                  have s7 := top_at wr #[.int .i64 v.src.kind, .int .i64 v.src.cls, .int .i64 v.src.n, .int .i64 v.dst.kind, .int .i64 v.dst.cls, .int .i64 v.dst.n] 48
                  rw [← hW7] at s7
                  have o0 : W7.cell? ⟨wr.heap.size, 0, none⟩ = some (.int .i64 v.src.kind) := s7 0
                  have o1 : W7.cell? ⟨wr.heap.size, 1, none⟩ = some (.int .i64 v.src.cls) := s7 1
                  have o2 : W7.cell? ⟨wr.heap.size, 2, none⟩ = some (.int .i64 v.src.n) := s7 2
                  have o3 : W7.cell? ⟨wr.heap.size, 3, none⟩ = some (.int .i64 v.dst.kind) := s7 3
                  have o4 : W7.cell? ⟨wr.heap.size, 4, none⟩ = some (.int .i64 v.dst.cls) := s7 4
                  have o5 : W7.cell? ⟨wr.heap.size, 5, none⟩ = some (.int .i64 v.dst.n) := s7 5
                  have HW7 : Hid (W7 = wr.alloc (.cells #[.int .i64 v.src.kind, .int .i64 v.src.cls, .int .i64 v.src.n, .int .i64 v.dst.kind, .int .i64 v.dst.cls, .int .i64 v.dst.n] 48)) := hW7
                  have HB7 : Hid (Below wc.heap.size wc W7) := HJ.out.1.trans (hb7.mono HJ.out.1.size)
                  have HBW7 : Hid (Below W.heap.size W W7) := HBr.out.trans (hb7.mono HBr.out.size)
                  have HCA := move_is v m0 m1 fr av ab ap (some ⟨be, offe, none⟩) nv nb np ne cv cb cp ce er her HM.out.1 HM.out.2 W7
                  clear hW7 s7 hb7 her
                  go_upto_region 15 with fail
                  rw [← HW7.out]
                  clear HW7 q0 q1 q2 q3 q4 q5 q6 lW d0 d1 d2 d3 d4 d5 hbm
                  obtain ⟨q0, q1, q2, q3, q4, q5, q6⟩ := HS.out _ HBW7.out
                  have lW : w.heap.size < W7.heap.size := Nat.lt_of_lt_of_le zW HBW7.out.size
                  go_wp2_with fail
                  refine HCA.mono ?_
                  clear HCA
                  rintro x w8 ⟨rfl, hb8⟩
                  have HB8 : Hid (Below wc.heap.size wc w8) := HB7.out.trans (hb8.mono HB7.out.size)
                  have HBW8 : Hid (Below W.heap.size W w8) := HBW7.out.trans (hb8.mono HBW7.out.size)
                  clear q0 q1 q2 q3 q4 q5 q6 lW o0 o1 o2 o3 o4 o5 hb8
                  by_cases h0 : er = 0
                  · have HJ2 : Hid (Below wc.heap.size wc w8 ∧ firstE (mvErr m0 m1 fr) (e.moves.drop (j + 1)) = firstE (mvErr m0 m1 fr) e.moves) := ⟨HB8.out, HJN.out h0⟩
                    subst h0
                    clear HJ
                    go_wp2
                    go_roundw
                    case rel => exact ⟨j + 1, by go_num, by omega, HJ2⟩
                    case measure => simp [intOf]; omega
                  · have hne : (er != 0) = true := by simpa using h0
                    have H : Hid (er = r) := by
                      show _ = _
                      rw [← HGO.out, HEE.out, HJE.out h0, if_neg h0]
                    clear h0
                    go_wp2
                    go_ret
                    exact ⟨ret_int H.out, hbw.trans (HBW8.out.mono hbw.size)⟩
                · have HK2 : Hid (0 ≤ tot + (e.moves.length : Int) ∧ tot + (e.moves.length : Int) ≤ 20000 ∧ Below W.heap.size W wr ∧ editsGo m0 m1 fr bs (prevOf l (i + 1)) (tot + (e.moves.length : Int)) (l.drop (i + 1)) = r) := by
                    refine ⟨HTO.out.1, HTO.out.2, HBr.out, ?_⟩
                    have := HGO.out
                    rw [HEE.out, firstE_end (by omega) HJ.out.2, if_pos rfl] at this
                    exact this
                  clear HJ
                  go_wp2
                  go_roundw
                  case rel => exact ⟨i + 1, tot + (e.moves.length : Int), rfl, by go_num, by omega, HK2⟩
                  case measure => simp [intOf]; omega
    · have H : Hid (0 = r) := by
        show _ = _
        have := HK.out.2.2.2
        rw [List.drop_of_length_le (by rw [HNE.out]; omega)] at this
        rw [← this]
        unfold editsGo
        rfl
      have HE : Hid (Below w.heap.size w wo) := hbw.trans (HBo.out.mono hbw.size)
      clear HK
      go_wp2
      go_ret
      exact ⟨ret_int H.out, HE.out⟩

end Go.Proofs.Ytjbjnndmpheedaa
