/-
  The contract of the reference's 'OutputFault' (P5.1, P5.2): it answers what mach.Check does.
-/
import Derived.Test.YtjbjnndmpheedaaM5
namespace Go.Proofs.Ytjbjnndmpheedaa
open Go.RowKit
set_option linter.unusedVariables false

set_option maxRecDepth 8000 in
set_option maxHeartbeats 16000000 in
theorem outputFault_is (f : Fn) (pl : List (List (List Pl))) (eds : List Ed) (m0 m1 fr : Int) (av ab ap ae : Option Addr) (nv nb cv cb np cp ne ce : Nat) (r : Int) (hr : machE f m0 m1 pl eds fr (nb * nb + 1) = r) (w : World) (hnb : f.blocks.length = nb) (hnv : f.values.length = nv) (hnp : pl.length = np) (hne : eds.length = ne) (hv : SlOf w 1 RInt (.slice av nv cv) f.values) (hb : SlOf w 3 (RBlk w) (.slice ab nb cb) f.blocks) (hp : SlOf w 1 (RPss w) (.slice ap np cp) pl) (he : SlOf w 3 (REd w) (.slice ae ne ce) eds) :
    Calls Try.prog 8 #[.agg #[.slice av nv cv, .slice ab nb cb], .agg #[.int .i64 m0, .int .i64 m1], .agg #[.slice ap np cp, .slice ae ne ce, .int .i64 fr]] w fun e w' => e = .returned (.int .i64 r) ∧ Below w.heap.size w w' := by
  obtain ⟨W, hW⟩ : ∃ W, W = ((w.alloc (.cells #[.slice av nv cv, .slice ab nb cb] 25)).alloc (.cells #[.int .i64 m0, .int .i64 m1] 28)).alloc (.cells #[.slice ap np cp, .slice ae ne ce, .int .i64 fr] 32) := ⟨_, rfl⟩
  obtain ⟨N, hN⟩ : ∃ N, w.heap.size = N := ⟨_, rfl⟩
  have hbw : Below w.heap.size w W := by rw [hW]; exact (((Below.refl _ _).alloc (Nat.le_refl _) _).alloc (by simp) _).alloc (by simp; omega) _
  have zW : N + 1 + 1 < W.heap.size := by rw [hW, ← hN]; simp
  obtain ⟨t0, t1, t2⟩ := three_at w #[.slice av nv cv, .slice ab nb cb] #[.int .i64 m0, .int .i64 m1] #[.slice ap np cp, .slice ae ne ce, .int .i64 fr] 25 28 32
  rw [← hW, hN] at t0 t1 t2
  have HW : Hid (W = ((w.alloc (.cells #[.slice av nv cv, .slice ab nb cb] 25)).alloc (.cells #[.int .i64 m0, .int .i64 m1] 28)).alloc (.cells #[.slice ap np cp, .slice ae ne ce, .int .i64 fr] 32)) := hW
  have HN : Hid (w.heap.size = N) := hN
  have HS : Hid (∀ w', Below W.heap.size W w' → w'.cell? ⟨N, 0, none⟩ = some (.slice av nv cv) ∧ w'.cell? ⟨N, 1, none⟩ = some (.slice ab nb cb) ∧ w'.cell? ⟨N + 1, 0, none⟩ = some (.int .i64 m0) ∧ w'.cell? ⟨N + 1, 1, none⟩ = some (.int .i64 m1) ∧ w'.cell? ⟨N + 1 + 1, 0, none⟩ = some (.slice ap np cp) ∧ w'.cell? ⟨N + 1 + 1, 1, none⟩ = some (.slice ae ne ce) ∧ w'.cell? ⟨N + 1 + 1, 2, none⟩ = some (.int .i64 fr) ∧ N + 1 + 1 < w'.heap.size) := fun w' hh => ⟨(hh.cell (p := ⟨N, 0, none⟩) (by simp; omega)).trans (t0 0), (hh.cell (p := ⟨N, 1, none⟩) (by simp; omega)).trans (t0 1), (hh.cell (p := ⟨N + 1, 0, none⟩) (by simp; omega)).trans (t1 0), (hh.cell (p := ⟨N + 1, 1, none⟩) (by simp; omega)).trans (t1 1), (hh.cell (p := ⟨N + 1 + 1, 0, none⟩) (by simp; omega)).trans (t2 0), (hh.cell (p := ⟨N + 1 + 1, 1, none⟩) (by simp; omega)).trans (t2 1), (hh.cell (p := ⟨N + 1 + 1, 2, none⟩) (by simp; omega)).trans (t2 2), Nat.lt_of_lt_of_le zW hh.size⟩
  have HBW : Hid (Below w.heap.size w W) := hbw
  have HB : Hid (SlOf W 3 (RBlk W) (.slice ab nb cb) f.blocks) := hb.below hbw (RBlk.below hbw)
  have HP : Hid (SlOf W 1 (RPss W) (.slice ap np cp) pl) := hp.below hbw (RPss.below hbw)
  have HE : Hid (SlOf W 3 (REd W) (.slice ae ne ce) eds) := he.below hbw (REd.below hbw)
  have lnb : nb ≤ 140737488355328 := by obtain ⟨_, _, _, hh⟩ := hb.out; rw [hnb] at hh; exact hh
  have lnp : np ≤ 140737488355328 := by obtain ⟨_, _, _, hh⟩ := hp.out; rw [hnp] at hh; exact hh
  have lne : ne ≤ 140737488355328 := by obtain ⟨_, _, _, hh⟩ := he.out; rw [hne] at hh; exact hh
  have HNB : Hid (f.blocks.length = nb) := hnb
  have HNP : Hid (pl.length = np) := hnp
  have HNE : Hid (eds.length = ne) := hne
  have HR : Hid (machE f m0 m1 pl eds fr (nb * nb + 1) = r) := hr
  obtain ⟨fe, hfe⟩ : ∃ fe, flowE f m0 m1 (nb * nb + 1) = fe := ⟨_, rfl⟩
  have HFE : Hid (flowE f m0 m1 (nb * nb + 1) = fe) := hfe
  have HC1 := funcFault_is f nb nv av ab cv cb m0 m1 fe hfe W hnb hnv (hv.below hbw fun _ _ h => h) HB.out
  obtain ⟨q0, q1, q2, q3, q4, q5, q6, lW⟩ := HS.out W (Below.refl _ _)
  clear hW hN t0 t1 t2 hv hb hp he hnb hnv hnp hne hr hfe hbw zW
  go_enter Try.func8, Try.ntmps8
  go_upto_region 1 with fail
  rw [← HW.out, HN.out]
  go_wp2_with fail
  refine HC1.mono ?_
  clear HC1 HW
  rintro e w1 ⟨rfl, hb1⟩
  have HB1 : Hid (Below W.heap.size W w1) := hb1
  clear q0 q1 q2 q3 q4 q5 q6 lW
  obtain ⟨q0, q1, q2, q3, q4, q5, q6, lW⟩ := HS.out _ hb1
  have HF : Hid (Below w.heap.size w w1) := HBW.out.trans (hb1.mono HBW.out.size)
  clear hb1
  by_cases h0 : fe = 0
  rotate_left
  · have hne : (fe != 0) = true := by simpa using h0
    have H : Hid (fe = r) := by
      show _ = _
      rw [← HR.out]
      unfold machE
      rw [if_pos (by rw [HFE.out]; exact h0), HFE.out]
    clear h0
    go_wp2
    go_ret
    exact ⟨ret_int H.out, HF.out⟩
  subst h0
  have HR1 : Hid ((if ¬ (0 ≤ fr ∧ fr ≤ 1000) then 1 else if placesErr m0 m1 fr f.blocks pl ≠ 0 then placesErr m0 m1 fr f.blocks pl else editsErr m0 m1 fr f.blocks eds) = r) := by
    have h := HR.out
    unfold machE at h
    rw [if_neg (by rw [HFE.out]; simp)] at h
    exact h
  have HM : Hid ((0 ≤ m0 ∧ m0 ≤ 1000) ∧ (0 ≤ m1 ∧ m1 ≤ 1000)) := flow_machR HFE.out
  clear HR HFE
  generalize f.blocks = bs at *
  obtain ⟨bf, hbf⟩ : ∃ bf, inB fr 0 1000 = bf := ⟨_, rfl⟩
  cases bf
  · have H : Hid (1 = r) := by
      show _ = _
      unfold inB at hbf
      rw [decide_eq_false_iff_not] at hbf
      rw [← HR1.out, if_pos hbf]
    go_wp2_with (go_at_call 22; refine (in_is _ _ _ false hbf _).mono ?_; rintro e w1 ⟨rfl, rfl⟩)
    go_ret
    exact ⟨ret_int H.out, HF.out⟩
  have HFR : Hid (0 ≤ fr ∧ fr ≤ 1000) := by
    show _ ∧ _
    unfold inB at hbf
    rw [decide_eq_true_iff] at hbf
    exact hbf
  have HR2 : Hid ((if placesErr m0 m1 fr bs pl ≠ 0 then placesErr m0 m1 fr bs pl else editsErr m0 m1 fr bs eds) = r) := by
    have h := HR1.out
    rw [if_neg (by have := HFR.out; omega)] at h
    exact h
  clear HR1
  by_cases hlen : np = nb
  rotate_left
  · have g1 : ((np : Int) != (nb : Int)) = true := by simp; omega
    have H : Hid (4 = r) := by
      show _ = _
      have hpe : placesErr m0 m1 fr bs pl = 4 := by unfold placesErr; rw [if_pos (by rw [HNB.out, HNP.out]; exact hlen)]
      rw [← HR2.out, hpe, if_pos (by decide)]
    clear hlen
    go_wp2_with (go_at_call 22; refine (in_is _ _ _ true hbf _).mono ?_; rintro e w1 ⟨rfl, rfl⟩)
    go_ret
    exact ⟨ret_int H.out, HF.out⟩
  subst hlen
  have HR3 : Hid ((if firstE (blkPlErr m0 m1 fr) (bs.zip pl) ≠ 0 then firstE (blkPlErr m0 m1 fr) (bs.zip pl) else editsErr m0 m1 fr bs eds) = r) := by
    have h := HR2.out
    have hpe : placesErr m0 m1 fr bs pl = firstE (blkPlErr m0 m1 fr) (bs.zip pl) := by unfold placesErr; rw [if_neg (by rw [HNB.out, HNP.out]; simp)]
    rw [hpe] at h
    exact h
  clear HR2 HF
  go_wp2_with (go_at_call 22; refine (in_is _ _ _ true hbf _).mono ?_; rintro e w1 ⟨rfl, rfl⟩)
  clear q0 q1 q2 q3 q4 q5 q6 lW hbf
  go_loopw [8] (fun x wr => ∃ k : Nat, x = .int .i64 k ∧ k ≤ np ∧ Hid (Below W.heap.size W wr ∧ firstE (blkPlErr m0 m1 fr) ((bs.zip pl).drop k) = firstE (blkPlErr m0 m1 fr) (bs.zip pl))) (fun x _ => np - (intOf x).toNat)
  case atStart => exact ⟨0, rfl, Nat.zero_le _, HB1.out, rfl⟩
  case round =>
    clear HB1
    obtain ⟨k, rfl, hk, HK⟩ := hrel
    obtain ⟨wo, hwo⟩ : ∃ wo, wo = wr := ⟨_, rfl⟩
    subst hwo
    obtain ⟨q0, q1, q2, q3, q4, q5, q6, lW⟩ := HS.out _ HK.out.1
    by_cases hlt : k < np
    · have hki : k < bs.length := by rw [HNB.out]; exact hlt
      have hkl : k < pl.length := by rw [HNP.out]; exact hlt
      obtain ⟨bl, offl, aq, cq, rfl, hbl, l0, lq, hq⟩ := pss_cell (HP.out.below HK.out.1 (RPss.below HK.out.1)) k hkl
      obtain ⟨b5, off5, cs, rfl, hcl5, ⟨vp, vi, ve, rfl, hp, hi, he0⟩, hc⟩ := (HB.out.below HK.out.1 (RBlk.below HK.out.1)).at k hki
      obtain ⟨ai, ci, rfl, li⟩ := hi.out
      unfold longest at li
      have x1 := hc 1 (by simp)
      simp at x1
      obtain ⟨hz, ez⟩ := zip_at hki hkl
      have HZ : Hid (∃ hz : k < (bs.zip pl).length, (bs.zip pl)[k] = (bs[k], pl[k])) := ⟨hz, ez⟩
      have HQ : Hid (SlOf wo 1 (RPs wo) (.slice aq pl[k].length cq) pl[k]) := hq
      have HI : Hid (SlOf wo 3 (RIns wo) (.slice ai bs[k].instrs.length ci) bs[k].instrs) := hi
      have HX1 : Hid (blkPlErr m0 m1 fr (bs[k], pl[k]) = if pl[k].length ≠ bs[k].instrs.length then 4 else firstE (insPlErr m0 m1 fr) (bs[k].instrs.zip pl[k])) := rfl
      have HL0 : Hid (∀ w', Below wo.heap.size wo w' → w'.cell? ⟨bl, offl + k, none⟩ = some (.slice aq pl[k].length cq) ∧ bl < w'.heap.size) := fun w' hh => ⟨(hh.cell (p := ⟨bl, offl + k, none⟩) hbl).trans l0, Nat.lt_of_lt_of_le hbl hh.size⟩
      clear hc hcl5 hp hi he0 hz ez hq
      have g0 : (k : Int) < (np : Int) := by omega
      by_cases hle : pl[k].length = bs[k].instrs.length
      rotate_left
      · have g1 : ((pl[k].length : Int) != (bs[k].instrs.length : Int)) = true := by simp; omega
        have H : Hid (4 = r) := by
          show _ = _
          obtain ⟨hz, ez⟩ := HZ.out
          rw [← HR3.out, firstE_here hz ez (by rw [HX1.out, if_pos hle]) (by decide) HK.out.2, if_pos (by decide)]
        have HX : Hid (Below w.heap.size w wo) := HBW.out.trans (HK.out.1.mono HBW.out.size)
        clear hle HK
        go_wp2
        go_ret
        exact ⟨ret_int H.out, HX.out⟩
      · have g1 : ((pl[k].length : Int) != (bs[k].instrs.length : Int)) = false := by simp [hle]
        have HX2 : Hid (blkPlErr m0 m1 fr (bs[k], pl[k]) = firstE (insPlErr m0 m1 fr) (bs[k].instrs.zip pl[k])) := by
          show _ = _
          rw [HX1.out, if_neg (by simp [hle])]
        have HLE : Hid (pl[k].length = bs[k].instrs.length) := hle
        clear HX1
        go_wp2
        clear q0 q1 q2 q3 q4 q5 q6 lW l0 x1 hbl
        generalize bs[k].instrs = is at *
        generalize pl[k] = ls at *
        clear g1
        have lni : ls.length ≤ 140737488355328 := lq
        go_loopw [10] (fun x wr => ∃ j : Nat, x = .int .i64 j ∧ j ≤ ls.length ∧ Hid (Below wo.heap.size wo wr ∧ firstE (insPlErr m0 m1 fr) ((is.zip ls).drop j) = firstE (insPlErr m0 m1 fr) (is.zip ls))) (fun x _ => ls.length - (intOf x).toNat)
        case atStart => exact ⟨0, rfl, Nat.zero_le _, Below.refl _ _, rfl⟩
        case round =>
          obtain ⟨j, rfl, hj, HJ⟩ := hrel
          obtain ⟨wi, hwi⟩ : ∃ wi, wi = wr := ⟨_, rfl⟩
          subst hwi
          have HBi : Hid (Below W.heap.size W wi) := HK.out.1.trans (HJ.out.1.mono HK.out.1.size)
          obtain ⟨q0, q1, q2, q3, q4, q5, q6, lW⟩ := HS.out _ HBi.out
          by_cases hltj : j < ls.length
          · have hji : j < is.length := by rw [← hle]; exact hltj
            obtain ⟨l0, hbl⟩ := HL0.out _ HJ.out.1
            obtain ⟨bq, offq, ap2, cp2, rfl, hbq, m2, lm, hm⟩ := ps_cell (HQ.out.below HJ.out.1 (RPs.below HJ.out.1)) j hltj
            obtain ⟨b7, off7, cs, rfl, hcl7, ⟨vo, vs, rfl, ho7, hs7⟩, hc7⟩ := (HI.out.below HJ.out.1 (RIns.below HJ.out.1)).at j hji
            obtain ⟨ao, co, rfl, lo⟩ := ho7.out
            unfold longest at lo
            have x7 := hc7 1 (by simp)
            simp at x7
            have h7 := block_lt x7
            obtain ⟨hz, ez⟩ := zip_at hji hltj
            have HZj : Hid (∃ hz : j < (is.zip ls).length, (is.zip ls)[j] = (is[j], ls[j])) := ⟨hz, ez⟩
            have HX3 : Hid (insPlErr m0 m1 fr (is[j], ls[j]) = if ls[j].length ≠ is[j].operands.length then 4 else if ls[j].all (holdB m0 m1 fr) = true then 0 else 2) := rfl
            have HM2 : Hid (SlOf wi 3 RPl (.slice ap2 ls[j].length cp2) ls[j]) := hm
            have HC7 : Hid (∀ w', Below wi.heap.size wi w' → w'.cell? ⟨bq, offq + j, none⟩ = some (.slice ap2 ls[j].length cp2) ∧ bq < w'.heap.size ∧ w'.cell? ⟨b7, off7 + j * 3 + 1, none⟩ = some (.slice ao is[j].operands.length co) ∧ b7 < w'.heap.size) := fun w' hh => ⟨(hh.cell (p := ⟨bq, offq + j, none⟩) hbq).trans m2, Nat.lt_of_lt_of_le hbq hh.size, (hh.cell (p := ⟨b7, off7 + j * 3 + 1, none⟩) h7).trans x7, Nat.lt_of_lt_of_le h7 hh.size⟩
            clear hc7 hcl7 ho7 hs7 hz ez hm
            have gj : (j : Int) < (ls.length : Int) := by omega
            have gj2 : (j : Int) < (is.length : Int) := by omega
            have HRI : Hid (∀ e : Int, e ≠ 0 → insPlErr m0 m1 fr (is[j], ls[j]) = e → e = r) := fun e h0 he => by
              obtain ⟨hz, ez⟩ := HZ.out
              obtain ⟨hz2, ez2⟩ := HZj.out
              have h1 : blkPlErr m0 m1 fr (bs[k], ls) = e := by rw [HX2.out]; exact firstE_here hz2 ez2 he h0 HJ.out.2
              rw [← HR3.out, firstE_here hz ez h1 h0 HK.out.2, if_pos h0]
            by_cases hle2 : ls[j].length = is[j].operands.length
            rotate_left
            · have g1 : ((ls[j].length : Int) != (is[j].operands.length : Int)) = true := by simp; omega
              have H : Hid (4 = r) := HRI.out 4 (by decide) (by rw [HX3.out, if_pos hle2])
              have HX : Hid (Below w.heap.size w wi) := HBW.out.trans (HBi.out.mono HBW.out.size)
              clear hle2 HJ
              go_upto_region 17 with fail
              go_quiet (fail)
              go_wp2
              go_ret
              exact ⟨ret_int H.out, below_drewN HX.out _⟩
            · have g1 : ((ls[j].length : Int) != (is[j].operands.length : Int)) = false := by simp [hle2]
              have HX4 : Hid (insPlErr m0 m1 fr (is[j], ls[j]) = if ls[j].all (holdB m0 m1 fr) = true then 0 else 2) := by
                show _ = _
                rw [HX3.out, if_neg (by simp [hle2])]
              clear HX3
              go_upto_region 17 with fail
              go_quiet (fail)
              go_wp2
              clear q0 q1 q2 q3 q4 q5 q6 lW l0 hbl m2 hbq x7 h7 g1
              generalize is[j].operands.length = no at *
              generalize ls[j] = ps at *
              subst hle2
              go_loopw [11] (fun x wr => ∃ t : Nat, x = .int .i64 t ∧ t ≤ ps.length ∧ Hid (Below wi.heap.size wi wr ∧ (ps.take t).all (holdB m0 m1 fr) = true)) (fun x _ => ps.length - (intOf x).toNat)
              case atStart => exact ⟨0, rfl, Nat.zero_le _, below_drewN (Below.refl _ _) _, rfl⟩
              case round =>
                obtain ⟨t, rfl, ht, HT⟩ := hrel
                have HBr : Hid (Below W.heap.size W wr) := HBi.out.trans (HT.out.1.mono HBi.out.size)
                have HJr : Hid (Below wo.heap.size wo wr) := HJ.out.1.trans (HT.out.1.mono HJ.out.1.size)
                obtain ⟨q0, q1, q2, q3, q4, q5, q6, lW⟩ := HS.out _ HBr.out
                obtain ⟨l0, hbl⟩ := HL0.out _ HJr.out
                obtain ⟨m2, hbq, x7, h7⟩ := HC7.out _ HT.out.1
                by_cases hltt : t < ps.length
                · obtain ⟨bp, offp, rfl, hbp, c0, c1, c2⟩ := pl_cell (HM2.out.below HT.out.1 fun _ _ h => h) t hltt
                  have HPM : Hid (ps[t] ∈ ps) := List.getElem_mem hltt
                  have HPN : Hid (holdB m0 m1 fr ps[t] = true → (ps.take (t + 1)).all (holdB m0 m1 fr) = true) := fun hh => by
                    rw [List.take_succ_eq_append_getElem hltt, List.all_append, HT.out.2]
                    simp [hh]
                  generalize ps[t] = p at *
                  obtain ⟨hv, hhv⟩ : ∃ hv, holdB m0 m1 fr p = hv := ⟨_, rfl⟩
                  have HCA := placeMay_is p m0 m1 fr false hv (mayB_false hhv) HM.out.1 HM.out.2 HFR.out wr.drew
                  have HHV : Hid (holdB m0 m1 fr p = hv) := hhv
                  have gt : (t : Int) < (ps.length : Int) := by omega
                  have hbd : Below wr.heap.size wr wr.drew := (Below.refl _ _).drew
                  clear hhv

                  have HSk : Hid (∀ w', Below wr.heap.size wr w' → (fun w' => w'.cell? ⟨N, 0, none⟩ = some (.slice av nv cv) ∧ w'.cell? ⟨N, 1, none⟩ = some (.slice (some ⟨b5, off5, none⟩) np cb) ∧ w'.cell? ⟨N + 1, 0, none⟩ = some (.int .i64 m0) ∧ w'.cell? ⟨N + 1, 1, none⟩ = some (.int .i64 m1) ∧ w'.cell? ⟨N + 1 + 1, 0, none⟩ = some (.slice (some ⟨bl, offl, none⟩) np cp) ∧ w'.cell? ⟨N + 1 + 1, 1, none⟩ = some (.slice ae ne ce) ∧ w'.cell? ⟨N + 1 + 1, 2, none⟩ = some (.int .i64 fr) ∧ w'.cell? ⟨bl, offl + k, none⟩ = some (.slice (some ⟨bq, offq, none⟩) ls.length cq) ∧ w'.cell? ⟨bq, offq + j, none⟩ = some (.slice (some ⟨bp, offp, none⟩) ps.length cp2) ∧ w'.cell? ⟨b7, off7 + j * 3 + 1, none⟩ = some (.slice ao ps.length co) ∧ w'.cell? ⟨bp, offp + t * 3, none⟩ = some (.int .i64 p.kind) ∧ w'.cell? ⟨bp, offp + t * 3 + 1, none⟩ = some (.int .i64 p.cls) ∧ w'.cell? ⟨bp, offp + t * 3 + 1 + 1, none⟩ = some (.int .i64 p.n) ∧ Below wr.heap.size wr w') w') := fun w' hh => ⟨(hh.cell (by simp; omega)).trans q0, (hh.cell (by simp; omega)).trans q1, (hh.cell (by simp; omega)).trans q2, (hh.cell (by simp; omega)).trans q3, (hh.cell (by simp; omega)).trans q4, (hh.cell (by simp; omega)).trans q5, (hh.cell (by simp; omega)).trans q6, (hh.cell (by simp; omega)).trans l0, (hh.cell (by simp; omega)).trans m2, (hh.cell (by simp; omega)).trans x7, (hh.cell (by simp; omega)).trans c0, (hh.cell (by simp; omega)).trans c1, (hh.cell (by simp; omega)).trans c2, hh⟩
                  go_upto_region 22 with fail
                  refine wp_region_X (fun w' => w'.cell? ⟨N, 0, none⟩ = some (.slice av nv cv) ∧ w'.cell? ⟨N, 1, none⟩ = some (.slice (some ⟨b5, off5, none⟩) np cb) ∧ w'.cell? ⟨N + 1, 0, none⟩ = some (.int .i64 m0) ∧ w'.cell? ⟨N + 1, 1, none⟩ = some (.int .i64 m1) ∧ w'.cell? ⟨N + 1 + 1, 0, none⟩ = some (.slice (some ⟨bl, offl, none⟩) np cp) ∧ w'.cell? ⟨N + 1 + 1, 1, none⟩ = some (.slice ae ne ce) ∧ w'.cell? ⟨N + 1 + 1, 2, none⟩ = some (.int .i64 fr) ∧ w'.cell? ⟨bl, offl + k, none⟩ = some (.slice (some ⟨bq, offq, none⟩) ls.length cq) ∧ w'.cell? ⟨bq, offq + j, none⟩ = some (.slice (some ⟨bp, offp, none⟩) ps.length cp2) ∧ w'.cell? ⟨b7, off7 + j * 3 + 1, none⟩ = some (.slice ao ps.length co) ∧ w'.cell? ⟨bp, offp + t * 3, none⟩ = some (.int .i64 p.kind) ∧ w'.cell? ⟨bp, offp + t * 3 + 1, none⟩ = some (.int .i64 p.cls) ∧ w'.cell? ⟨bp, offp + t * 3 + 1 + 1, none⟩ = some (.int .i64 p.n) ∧ Below wr.heap.size wr w') 99 (by kernel_rfl) (HSk.out _ hbd) (fun hHeld => ?_)
                  refine wpXt (v := ?_) 0 rfl (by kernel_rfl) (fun _ _ _ h => h) (by rfl) ?_ hHeld ?_
                  rotate_left
                  · intro w' hSw
                    go_simp <;> with_reducible rfl
                  try simp only [Act.put, List.setIfInBounds_toArray, List.set_cons_zero, List.set_cons_succ]
                  refine wpXt (v := ?_) 1 rfl (by kernel_rfl) (fun _ _ _ h => h) (by rfl) ?_ hHeld ?_
                  rotate_left
                  · intro w' hSw
                    go_simp <;> with_reducible rfl
                  try simp only [Act.put, List.setIfInBounds_toArray, List.set_cons_zero, List.set_cons_succ]
                  refine wpXt (v := ?_) 2 rfl (by kernel_rfl) (fun _ _ _ h => h) (by rfl) ?_ hHeld ?_
                  rotate_left
                  · intro w' hSw
                    go_simp <;> with_reducible rfl
                  try simp only [Act.put, List.setIfInBounds_toArray, List.set_cons_zero, List.set_cons_succ]
                  refine wpXt (v := ?_) 3 rfl (by kernel_rfl) (fun _ _ _ h => h) (by rfl) ?_ hHeld ?_
                  rotate_left
                  · intro w' hSw
                    go_simp <;> with_reducible rfl
                  try simp only [Act.put, List.setIfInBounds_toArray, List.set_cons_zero, List.set_cons_succ]
                  refine wpXt (v := ?_) 4 rfl (by kernel_rfl) (fun _ _ _ h => h) (by rfl) ?_ hHeld ?_
                  rotate_left
                  · intro w' hSw
                    go_simp <;> with_reducible rfl
                  try simp only [Act.put, List.setIfInBounds_toArray, List.set_cons_zero, List.set_cons_succ]
                  refine wpXt (v := ?_) 5 rfl (by kernel_rfl) (fun _ _ _ h => h) (by rfl) ?_ hHeld ?_
                  rotate_left
                  · intro w' hSw
                    go_simp <;> with_reducible rfl
                  try simp only [Act.put, List.setIfInBounds_toArray, List.set_cons_zero, List.set_cons_succ]
                  refine wpXt (v := ?_) 6 rfl (by kernel_rfl) (fun _ _ _ h => h) (by rfl) ?_ hHeld ?_
                  rotate_left
                  · intro w' hSw
                    go_simp <;> with_reducible rfl
                  try simp only [Act.put, List.setIfInBounds_toArray, List.set_cons_zero, List.set_cons_succ]
                  refine wpXt (v := ?_) 7 rfl (by kernel_rfl) (fun _ _ _ h => h) (by rfl) ?_ hHeld ?_
                  rotate_left
                  · intro w' hSw
                    go_simp <;> with_reducible rfl
                  try simp only [Act.put, List.setIfInBounds_toArray, List.set_cons_zero, List.set_cons_succ]
                  refine wpXt (v := ?_) 8 rfl (by kernel_rfl) (fun _ _ _ h => h) (by rfl) ?_ hHeld ?_
                  rotate_left
                  · intro w' hSw
                    go_simp <;> with_reducible rfl
                  try simp only [Act.put, List.setIfInBounds_toArray, List.set_cons_zero, List.set_cons_succ]
                  refine wpXt (v := ?_) 9 rfl (by kernel_rfl) (fun _ _ _ h => h) (by rfl) ?_ hHeld ?_
                  rotate_left
                  · intro w' hSw
                    go_simp <;> with_reducible rfl
                  try simp only [Act.put, List.setIfInBounds_toArray, List.set_cons_zero, List.set_cons_succ]
                  refine wpXt (v := ?_) 10 rfl (by kernel_rfl) (fun _ _ _ h => h) (by rfl) ?_ hHeld ?_
                  rotate_left
                  · intro w' hSw
                    go_simp <;> with_reducible rfl
                  try simp only [Act.put, List.setIfInBounds_toArray, List.set_cons_zero, List.set_cons_succ]
                  refine wpXt (v := ?_) 11 rfl (by kernel_rfl) (fun _ _ _ h => h) (by rfl) ?_ hHeld ?_
                  rotate_left
                  · intro w' hSw
                    go_simp <;> with_reducible rfl
                  try simp only [Act.put, List.setIfInBounds_toArray, List.set_cons_zero, List.set_cons_succ]
                  refine wpXt (v := ?_) 12 rfl (by kernel_rfl) (fun _ _ _ h => h) (by rfl) ?_ hHeld ?_
                  rotate_left
                  · intro w' hSw
                    go_simp <;> with_reducible rfl
                  try simp only [Act.put, List.setIfInBounds_toArray, List.set_cons_zero, List.set_cons_succ]
                  refine wpXt (v := ?_) 13 rfl (by kernel_rfl) (fun _ _ _ h => h) (by rfl) ?_ hHeld ?_
                  rotate_left
                  · intro w' hSw
                    go_simp <;> with_reducible rfl
                  try simp only [Act.put, List.setIfInBounds_toArray, List.set_cons_zero, List.set_cons_succ]
                  refine wpXs 14 rfl (by kernel_rfl) (fun K hK => ?_)
                  go_simp
                  refine HCA.mono ?_
                  rintro e wn ⟨rfl, hbn0⟩
                  have hbn : Below wr.heap.size wr wn := hbd.trans (hbn0.mono hbd.size)
                  refine hK.out _ _ (HSk.out _ hbn) (fun hHeld => ?_)
                  clear hK K
                  try simp only [Act.put, List.setIfInBounds_toArray, List.set_cons_zero, List.set_cons_succ]
                  refine wpXs 15 rfl (by kernel_rfl) (fun K hK => ?_)
                  go_simp
                  refine hK.out _ _ (HSk.out _ hbn) (fun hHeld => ?_)
                  clear hK K
                  try simp only [Act.put, List.setIfInBounds_toArray, List.set_cons_zero, List.set_cons_succ]
                  refine wpAnyX_done (by kernel_rfl) ?_ _

                  have HTN : Hid (Below wi.heap.size wi wn) := HT.out.1.trans (hbn.mono HT.out.1.size)
                  have HBN : Hid (Below W.heap.size W wn) := HBi.out.trans (HTN.out.mono HBi.out.size)
                  clear q0 q1 q2 q3 q4 q5 q6 lW l0 hbl m2 hbq x7 h7 c0 c1 c2 hbp hbd hbn0 hbn HSk HCA
                  cases hv
                  case false =>
                    have H : Hid (2 = r) := HRI.out 2 (by decide) (by
                      rw [HX4.out, if_neg]
                      intro hall
                      have := List.all_eq_true.1 hall p HPM.out
                      rw [HHV.out] at this
                      cases this)
                    go_wp2
                    go_ret
                    exact ⟨ret_int H.out, HBW.out.trans (HBN.out.mono HBW.out.size)⟩
                  case true =>
                    have HT2 : Hid (Below wi.heap.size wi wn ∧ (ps.take (t + 1)).all (holdB m0 m1 fr) = true) := ⟨HTN.out, HPN.out HHV.out⟩
                    clear HT
                    go_wp2
                    go_roundw
                    case rel => exact ⟨t + 1, by go_num, by omega, HT2⟩
                    case measure => simp [intOf]; omega
                · have HJ2 : Hid (Below wo.heap.size wo wr ∧ firstE (insPlErr m0 m1 fr) ((is.zip ls).drop (j + 1)) = firstE (insPlErr m0 m1 fr) (is.zip ls)) := by
                    obtain ⟨hz, ez⟩ := HZj.out
                    refine ⟨HJr.out, firstE_next hz ez ?_ HJ.out.2⟩
                    rw [HX4.out, if_pos]
                    have h := HT.out.2
                    rw [List.take_of_length_le (by omega)] at h
                    exact h
                  clear HJ
                  go_wp2
                  go_roundw
                  case rel => exact ⟨j + 1, by go_num, by omega, HJ2⟩
                  case measure => simp [intOf]; omega
          · have HK2 : Hid (Below W.heap.size W wi ∧ firstE (blkPlErr m0 m1 fr) ((bs.zip pl).drop (k + 1)) = firstE (blkPlErr m0 m1 fr) (bs.zip pl)) := by
              obtain ⟨hz, ez⟩ := HZ.out
              refine ⟨HBi.out, firstE_next hz ez ?_ HK.out.2⟩
              rw [HX2.out]
              exact firstE_end (by rw [List.length_zip]; omega) HJ.out.2
            clear HK
            go_wp2
            go_roundw
            case rel => exact ⟨k + 1, by go_num, by omega, HK2⟩
            case measure => simp [intOf]; omega

    · have HR : Hid (editsGo m0 m1 fr bs (prevOf eds 0) 0 (eds.drop 0) = r) := by
        have h := HR3.out
        rw [firstE_end (by rw [List.length_zip, HNP.out, HNB.out]; omega) HK.out.2, if_neg (by decide)] at h
        exact h
      have HBo : Hid (Below W.heap.size W wo) := HK.out.1
      clear HR3 HK
      go_upto_block 6 with fail
      clear q0 q1 q2 q3 q4 q5 q6 lW hlt
      refine output_edits bs eds m0 m1 fr av ab ap ae nv cv cb np cp ne ce r w W _ N lnp lne HS HBW HB HE HNB HNE HM HFR HR HBo _ _ _ _ _ _ _ _ _ _ _ _ _ _ _ _ _ _ _ _ _ _ _ _ _ _ _ _ _ _ _ _ _ _ _ _ _ _ _ _ _ _ _ _ _ _ _ _ _ _ _ _ _ _ _ _ _ _ _ _ _ _ _ _ _ _ _ _ _ _ _ _ _ _ _ _ _ _ _ _ _ _ _ _ _ _ _ _ _ _ _ _ _ _ _ _ _ _ _ _ _ _ _ _ _ _ _ _ _ _ _ _ _ _ _ _ _ _ _ _ _ _ _ _ _ _ _ _ _ _ _ _ _ _ _ _ _ _ _ _ _ _ _ _ _ _ _ _ _ _ _ _ _ _ _ _ _ _ _ _ _ _ _ _ _ _ _ _ _ _ _ _ _ _ _ _ _ _ _ _ _ _ _ _ _ _ _ _ _ _ _ _ _ _ _ _ _ _ _ _ _ _ _ _ _ _ _ _ _ _ _ _ _ _ _ _ _ _ _ _ _ _ _ _ _ _ _ _ _ _ _ _ _ _ _ _ _ ?_ ?_ _ (by kernel_rfl)
      · intro x wr hx hb b12 b13 b14 b15 b16 b17 b105 b106 b107 b108 b109 b110 b111 b112 b113 b114 b115 b116 b117 b118 b119 b120 b121 b122 b123 b124 b125 b126 b127 b128 b129 b130 b131 b132 b133 b134 b135 b136 b137 b138 b139 b140 b141 b142 b143 b144 b145 b146 b147 b148 b149 b150 b151 b152 b153 b154 b155 b156 b157 b158 b159 b160 b161 b162 b163 b164 b165 b166 b167 b168 b169 b170 b171 b172 b173 b174 b175 b176 b177 b178 b179 b180 b181 b182 b183 b184 b185 b186 b187 b188 b189 b190 b191 b192 b193 b194 b195 b196 b197 b198 b199 b200 b201 b202 b203 b204 b205 b206 b207 b208 b209 b210 b211 b212 b213 b214 b215 b216 b217 b218 b219 b220 b221 b222 b223 b224 b225 b226 b227 b228 b229 b230 b231 b232 b233 b234 b235 b236 b237 b238 b239
        go_ret
        exact ⟨ret_int hx, hb⟩
      · intro wr hx hb b6 b12 b13 b14 b15 b16 b17 b105 b106 b107 b108 b109 b110 b111 b112 b113 b114 b115 b116 b117 b118 b119 b120 b121 b122 b123 b124 b125 b126 b127 b128 b129 b130 b131 b132 b133 b134 b135 b136 b137 b138 b139 b140 b141 b142 b143 b144 b145 b146 b147 b148 b149 b150 b151 b152 b153 b154 b155 b156 b157 b158 b159 b160 b161 b162 b163 b164 b165 b166 b167 b168 b169 b170 b171 b172 b173 b174 b175 b176 b177 b178 b179 b180 b181 b182 b183 b184 b185 b186 b187 b188 b189 b190 b191 b192 b193 b194 b195 b196 b197 b198 b199 b200 b201 b202 b203 b204 b205 b206 b207 b208 b209 b210 b211 b212 b213 b214 b215 b216 b217 b218 b219 b220 b221 b222 b223 b224 b225 b226 b227 b228 b229 b230 b231 b232 b233 b234 b235 b236 b237 b238 b239
        go_wp2
        go_ret
        exact ⟨ret_int hx, hb⟩
end Go.Proofs.Ytjbjnndmpheedaa
