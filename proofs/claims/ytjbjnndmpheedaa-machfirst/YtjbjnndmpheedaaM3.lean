/-
  The contract of mach's 'Check' (P5.1, P5.2).
-/
import Derived.Test.YtjbjnndmpheedaaM2
namespace Go.Proofs.Ytjbjnndmpheedaa
open Go.RowKit
set_option linter.unusedVariables false

theorem flow_mach {f : Fn} {m0 m1 : Int} {K : Nat} (h : flowE f m0 m1 K = 0) : (0 ≤ m0 ∧ m0 ≤ 1000) ∧ (0 ≤ m1 ∧ m1 ≤ 1000) := by
  have h1 : shapeErr f m0 m1 = 0 := by
    unfold flowE at h
    by_cases hc : shapeErr f m0 m1 ≠ 0
    · rw [if_pos hc] at h
      exact h
    · simpa using hc
  have h2 := (shape_in h1).mach
  unfold machErr at h2
  split at h2
  · omega
  · omega

set_option maxHeartbeats 8000000 in
theorem machCheck_any (f : Fn) (pl : List (List (List Pl))) (eds : List Ed) (m0 m1 fr : Int) (av ab ap ae : Option Addr) (cv cb np cp ne ce : Nat) (r : Int) (hr : machE f m0 m1 pl eds fr (f.blocks.length * f.blocks.length + 1) = r) (w : World) (hnp : pl.length = np) (hne : eds.length = ne) (hv : SlOf w 1 RInt (.slice av f.values.length cv) f.values) (hb : SlOf w 3 (RBlk w) (.slice ab f.blocks.length cb) f.blocks) (hp : SlOf w 1 (RPss w) (.slice ap np cp) pl) (he : SlOf w 3 (REd w) (.slice ae ne ce) eds) :
    Calls Try.prog 7 #[.agg #[.slice av f.values.length cv, .slice ab f.blocks.length cb], .agg #[.int .i64 m0, .int .i64 m1], .agg #[.slice ap np cp, .slice ae ne ce, .int .i64 fr]] w fun e w' => e = .returned (.int .i64 r) ∧ Below w.heap.size w w' := by
  obtain ⟨W, hW⟩ : ∃ W, W = ((w.alloc (.cells #[.slice av f.values.length cv, .slice ab f.blocks.length cb] 25)).alloc (.cells #[.int .i64 m0, .int .i64 m1] 28)).alloc (.cells #[.slice ap np cp, .slice ae ne ce, .int .i64 fr] 32) := ⟨_, rfl⟩
  have hbw : Below w.heap.size w W := by rw [hW]; exact (((Below.refl _ _).alloc (Nat.le_refl _) _).alloc (by simp) _).alloc (by simp; omega) _
  have zW : w.heap.size + 1 + 1 < W.heap.size := by rw [hW]; simp
  obtain ⟨t0, t1, t2⟩ := three_at w #[.slice av f.values.length cv, .slice ab f.blocks.length cb] #[.int .i64 m0, .int .i64 m1] #[.slice ap np cp, .slice ae ne ce, .int .i64 fr] 25 28 32
  rw [← hW] at t0 t1 t2
  have HW : Hid (W = ((w.alloc (.cells #[.slice av f.values.length cv, .slice ab f.blocks.length cb] 25)).alloc (.cells #[.int .i64 m0, .int .i64 m1] 28)).alloc (.cells #[.slice ap np cp, .slice ae ne ce, .int .i64 fr] 32)) := hW
  have HS : Hid (∀ w', Below W.heap.size W w' → w'.cell? ⟨w.heap.size, 0, none⟩ = some (.slice av f.values.length cv) ∧ w'.cell? ⟨w.heap.size, 1, none⟩ = some (.slice ab f.blocks.length cb) ∧ w'.cell? ⟨w.heap.size + 1, 0, none⟩ = some (.int .i64 m0) ∧ w'.cell? ⟨w.heap.size + 1, 1, none⟩ = some (.int .i64 m1) ∧ w'.cell? ⟨w.heap.size + 1 + 1, 0, none⟩ = some (.slice ap np cp) ∧ w'.cell? ⟨w.heap.size + 1 + 1, 1, none⟩ = some (.slice ae ne ce) ∧ w'.cell? ⟨w.heap.size + 1 + 1, 2, none⟩ = some (.int .i64 fr) ∧ w.heap.size + 1 + 1 < w'.heap.size) := fun w' hh => ⟨(hh.cell (p := ⟨w.heap.size, 0, none⟩) (by simp; omega)).trans (t0 0), (hh.cell (p := ⟨w.heap.size, 1, none⟩) (by simp; omega)).trans (t0 1), (hh.cell (p := ⟨w.heap.size + 1, 0, none⟩) (by simp; omega)).trans (t1 0), (hh.cell (p := ⟨w.heap.size + 1, 1, none⟩) (by simp; omega)).trans (t1 1), (hh.cell (p := ⟨w.heap.size + 1 + 1, 0, none⟩) (by simp; omega)).trans (t2 0), (hh.cell (p := ⟨w.heap.size + 1 + 1, 1, none⟩) (by simp; omega)).trans (t2 1), (hh.cell (p := ⟨w.heap.size + 1 + 1, 2, none⟩) (by simp; omega)).trans (t2 2), Nat.lt_of_lt_of_le zW hh.size⟩
  have HBW : Hid (Below w.heap.size w W) := hbw
  have HV : Hid (SlOf W 1 RInt (.slice av f.values.length cv) f.values) := hv.below hbw fun _ _ h => h
  have HB : Hid (SlOf W 3 (RBlk W) (.slice ab f.blocks.length cb) f.blocks) := hb.below hbw (RBlk.below hbw)
  have HP : Hid (SlOf W 1 (RPss W) (.slice ap np cp) pl) := hp.below hbw (RPss.below hbw)
  have HE : Hid (SlOf W 3 (REd W) (.slice ae ne ce) eds) := he.below hbw (REd.below hbw)
  have HNP : Hid (pl.length = np) := hnp
  have HNE : Hid (eds.length = ne) := hne
  have HR : Hid (machE f m0 m1 pl eds fr (f.blocks.length * f.blocks.length + 1) = r) := hr
  obtain ⟨fe, hfe⟩ : ∃ fe, flowE f m0 m1 (f.blocks.length * f.blocks.length + 1) = fe := ⟨_, rfl⟩
  have HFE : Hid (flowE f m0 m1 (f.blocks.length * f.blocks.length + 1) = fe) := hfe
  have HC1 := flowCheck_any f _ m0 m1 av ab cv cb fe hfe W HV.out HB.out flowIn_all
  obtain ⟨q0, q1, q2, q3, q4, q5, q6, lW⟩ := HS.out W (Below.refl _ _)
  clear hW t0 t1 t2 hv hb hp he hnp hne hr hfe hbw zW
  go_enter Try.func7, Try.ntmps7
  go_upto_region 1 with fail
  rw [← HW.out]
  go_wp2_with fail
  refine HC1.mono ?_
  clear HC1 HW
  rintro e w1 ⟨rfl, hb1⟩
  have HB1 : Hid (Below W.heap.size W w1) := hb1
  clear q0 q1 q2 q3 q4 q5 q6 lW
  obtain ⟨q0, q1, q2, q3, q4, q5, q6, lW⟩ := HS.out _ hb1
  have HF : Hid (Below w.heap.size w w1) := HBW.out.trans (hb1.mono HBW.out.size)
  clear hb1
  by_cases h0 : fe = 0
  rotate_left
  · have hne : (fe != 0) = true := by simpa using h0
    have H : Hid (fe = r) := by
      show _ = _
      rw [← HR.out]
      unfold machE
      rw [if_pos (by rw [HFE.out]; exact h0), HFE.out]
    clear h0
    go_wp2
    go_ret
    exact ⟨ret_int H.out, HF.out⟩
  subst h0
  have HR1 : Hid ((if ¬ (0 ≤ fr ∧ fr ≤ 1000) then 1 else if placesErr m0 m1 fr f.blocks pl ≠ 0 then placesErr m0 m1 fr f.blocks pl else editsErr m0 m1 fr f.blocks eds) = r) := by
    have h := HR.out
    unfold machE at h
    rw [if_neg (by rw [HFE.out]; simp)] at h
    exact h
  have HM : Hid ((0 ≤ m0 ∧ m0 ≤ 1000) ∧ (0 ≤ m1 ∧ m1 ≤ 1000)) := flow_mach HFE.out
  clear HR
  by_cases hf0 : fr < 0
  · have g1 : decide (fr < 0) = true := decide_eq_true hf0
    have H : Hid (1 = r) := by
      show _ = _
      rw [← HR1.out, if_pos (by omega)]
    go_wp2
    go_ret
    exact ⟨ret_int H.out, HF.out⟩
  have g1 : decide (fr < 0) = false := decide_eq_false hf0
  by_cases hf1 : 1000 < fr
  · have g2 : decide (1000 < fr) = true := decide_eq_true hf1
    have H : Hid (1 = r) := by
      show _ = _
      rw [← HR1.out, if_pos (by omega)]
    go_wp2
    go_ret
    exact ⟨ret_int H.out, HF.out⟩
  have g2 : decide (1000 < fr) = false := decide_eq_false hf1
  have HR2 : Hid ((if placesErr m0 m1 fr f.blocks pl ≠ 0 then placesErr m0 m1 fr f.blocks pl else editsErr m0 m1 fr f.blocks eds) = r) := by
    have h := HR1.out
    rw [if_neg (by omega)] at h
    exact h
  clear HR1
  obtain ⟨C, hC⟩ : ∃ C, C = w1.alloc (.cells #[.slice av f.values.length cv, .slice ab f.blocks.length cb, .int .i64 m0, .int .i64 m1, .slice ap np cp, .slice ae ne ce, .int .i64 fr] 69) := ⟨_, rfl⟩
  obtain ⟨P, hP⟩ : ∃ P, w1.heap.size = P := ⟨_, rfl⟩
  have hbc : Below w1.heap.size w1 C := by rw [hC]; exact (Below.refl _ _).alloc (Nat.le_refl _) _
  have s4 := top_at w1 #[.slice av f.values.length cv, .slice ab f.blocks.length cb, .int .i64 m0, .int .i64 m1, .slice ap np cp, .slice ae ne ce, .int .i64 fr] 69
  rw [← hC, hP] at s4
  have HY : Hid (∀ w', Below C.heap.size C w' → w'.cell? ⟨P, 0, none⟩ = some (.slice av f.values.length cv) ∧ w'.cell? ⟨P, 1, none⟩ = some (.slice ab f.blocks.length cb) ∧ w'.cell? ⟨P, 2, none⟩ = some (.int .i64 m0) ∧ w'.cell? ⟨P, 3, none⟩ = some (.int .i64 m1) ∧ w'.cell? ⟨P, 4, none⟩ = some (.slice ap np cp) ∧ w'.cell? ⟨P, 5, none⟩ = some (.slice ae ne ce) ∧ w'.cell? ⟨P, 6, none⟩ = some (.int .i64 fr) ∧ P < w'.heap.size) := fun w' hh => ⟨(hh.cell (p := ⟨P, 0, none⟩) (block_lt (s4 0))).trans (s4 0), (hh.cell (p := ⟨P, 1, none⟩) (block_lt (s4 0))).trans (s4 1), (hh.cell (p := ⟨P, 2, none⟩) (block_lt (s4 0))).trans (s4 2), (hh.cell (p := ⟨P, 3, none⟩) (block_lt (s4 0))).trans (s4 3), (hh.cell (p := ⟨P, 4, none⟩) (block_lt (s4 0))).trans (s4 4), (hh.cell (p := ⟨P, 5, none⟩) (block_lt (s4 0))).trans (s4 5), (hh.cell (p := ⟨P, 6, none⟩) (block_lt (s4 0))).trans (s4 6), Nat.lt_of_lt_of_le (block_lt (s4 0)) hh.size⟩
  have HBC : Hid (Below W.heap.size W C) := HB1.out.trans (hbc.mono HB1.out.size)
  have HC : Hid (C = w1.alloc (.cells #[.slice av f.values.length cv, .slice ab f.blocks.length cb, .int .i64 m0, .int .i64 m1, .slice ap np cp, .slice ae ne ce, .int .i64 fr] 69)) := hC
  have HP1 : Hid (w1.heap.size = P) := hP
  obtain ⟨pe, hpe⟩ : ∃ pe, placesErr m0 m1 fr f.blocks pl = pe := ⟨_, rfl⟩
  have HPE : Hid (placesErr m0 m1 fr f.blocks pl = pe) := hpe
  have HCA := places_is f.blocks pl m0 m1 fr av ab ap ae f.values.length f.blocks.length np ne cv cb cp ce pe hpe C rfl HNP.out (HB.out.below HBC.out (RBlk.below HBC.out)) (HP.out.below HBC.out (RPss.below HBC.out))
  clear hC hP hbc s4 hpe
  go_upto_region 7 with fail
  rw [← HC.out, HP1.out]
  clear HC HP1 q0 q1 q2 q3 q4 q5 q6 lW
  obtain ⟨q0, q1, q2, q3, q4, q5, q6, lP⟩ := HY.out _ (Below.refl _ _)
  go_wp2_with fail
  refine HCA.mono ?_
  clear HCA
  rintro e w2 ⟨rfl, hb2⟩
  have HB2 : Hid (Below C.heap.size C w2) := hb2
  have HF2 : Hid (Below w.heap.size w w2) := by
    have h := HBC.out.trans (hb2.mono HBC.out.size)
    exact HBW.out.trans (h.mono HBW.out.size)
  have HBW2 : Hid (Below W.heap.size W w2) := HBC.out.trans (hb2.mono HBC.out.size)
  clear q0 q1 q2 q3 q4 q5 q6 lP hb2
  obtain ⟨q0, q1, q2, q3, q4, q5, q6, lP⟩ := HY.out _ HB2.out
  by_cases h0 : pe = 0
  rotate_left
  · have hne : (pe != 0) = true := by simpa using h0
    have H : Hid (pe = r) := by
      show _ = _
      rw [← HR2.out, if_pos (by rw [HPE.out]; exact h0), HPE.out]
    clear h0
    go_wp2
    go_ret
    exact ⟨ret_int H.out, HF2.out⟩
  subst h0
  obtain ⟨de, hde⟩ : ∃ de, editsErr m0 m1 fr f.blocks eds = de := ⟨_, rfl⟩
  have H : Hid (de = r) := by
    show _ = _
    rw [← HR2.out, if_neg (by rw [HPE.out]; simp), hde]
  have HCE := edits_is f.blocks eds m0 m1 fr av ab ap ae f.values.length f.blocks.length np ne cv cb cp ce de hde HM.out.1 HM.out.2 w2 rfl HNE.out (HB.out.below HBW2.out (RBlk.below HBW2.out)) (HE.out.below HBW2.out (REd.below HBW2.out))
  clear hde
  go_wp2_with fail
  refine HCE.mono ?_
  clear HCE
  rintro e w3 ⟨rfl, hb3⟩
  have HF3 : Hid (Below w.heap.size w w3) := HF2.out.trans (hb3.mono HF2.out.size)
  clear q0 q1 q2 q3 q4 q5 q6 lP hb3
  go_wp2
  go_ret
  exact ⟨ret_int H.out, HF3.out⟩
end Go.Proofs.Ytjbjnndmpheedaa
