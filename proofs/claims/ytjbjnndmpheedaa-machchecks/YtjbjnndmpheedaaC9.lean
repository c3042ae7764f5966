/-
  The contract of the reference's 'madeAhead'.
-/
import Derived.Test.YtjbjnndmpheedaaC8
import Derived.Test.YtjbjnndmpheedaaC5
namespace Go.Proofs.Ytjbjnndmpheedaa
open Go.RowKit
set_option linter.unusedVariables false

theorem sp_par {bs : List Blk} {b : Nat} (hb : b < bs.length) {v : Int} (h : v ∈ bs[b].params) : (v, ((b : Int), (-1 : Int))) ∈ spU bs bs.length := by
  unfold spU
  refine List.mem_flatMap.2 ⟨b, List.mem_range.2 hb, ?_⟩
  unfold blkSp parSp
  simp only [List.getD, List.getElem?_eq_getElem hb, Option.getD_some]
  exact List.mem_append_left _ (List.mem_map.2 ⟨v, h, rfl⟩)
theorem sp_ins {bs : List Blk} {b i : Nat} (hb : b < bs.length) (hi : i < bs[b].instrs.length) {o : Opr} (ho : o ∈ bs[b].instrs[i].operands) (hk : o.kind = 2) : (o.value, ((b : Int), (i : Int))) ∈ spU bs bs.length := by
  unfold spU
  refine List.mem_flatMap.2 ⟨b, List.mem_range.2 hb, ?_⟩
  unfold blkSp insSpU
  simp only [List.getD, List.getElem?_eq_getElem hb, Option.getD_some]
  refine List.mem_append_right _ (List.mem_flatMap.2 ⟨i, List.mem_range.2 hi, ?_⟩)
  unfold insSp oprM
  simp only [List.getElem?_eq_getElem hi, Option.getD_some]
  exact List.mem_map.2 ⟨o.value, List.mem_map.2 ⟨o, List.mem_filter.2 ⟨ho, by simp [hk]⟩, rfl⟩, rfl⟩
theorem hasI_iff {l : List Int} {v : Int} : hasI l v = true ↔ v ∈ l := by
  unfold hasI
  rw [List.any_eq_true]
  constructor
  · rintro ⟨x, hx, e⟩
    have e' : x = v := by simpa using e
    rw [← e']
    exact hx
  · intro h
    exact ⟨v, h, by simp⟩
theorem not_par {b : Nat} {l : List Int} {v : Int} (h : hasI l v = false) (s : Spot) : (v, s) ∉ parSp b l := by
  intro hm
  unfold parSp at hm
  obtain ⟨u, hu, e⟩ := List.mem_map.1 hm
  cases e
  rw [hasI_iff.2 hu] at h
  cases h

set_option maxRecDepth 4000 in
set_option maxHeartbeats 8000000 in
theorem rMade_is (bs : List Blk) (n nv : Nat) (v : Int) (block pos : Nat) (sp : Spot) (r : Bool) (hr : r = true ↔ AheadR (succM bs) sp ((block : Int), (pos : Int))) (hm : (v, sp) ∈ spU bs bs.length) (hu : ∀ s, (v, s) ∈ spU bs bs.length → s = sp) (av ab : Option Addr) (cv cb : Nat) (w : World) (hbl : bs.length = n) (hs : SlOf w 3 (RBlk w) (.slice ab n cb) bs) (hrg : ∀ b ∈ bs, ∀ e ∈ b.edges, 0 ≤ e.block ∧ e.block < (n : Int)) (hb : block < n) (hn : n ≤ 1000) :
    Calls Try.prog 40 #[.agg #[.slice av nv cv, .slice ab n cb], .int .i64 v, .int .i64 block, .int .i64 pos] w fun e w' => e = .returned (.bool r) ∧ Below w.heap.size w w' := by
  obtain ⟨W, hW⟩ : ∃ W, W = w.alloc (.cells #[.slice av nv cv, .slice ab n cb] 25) := ⟨_, rfl⟩
  have hbw : Below w.heap.size w W := by rw [hW]; exact (Below.refl _ _).alloc (Nat.le_refl _) _
  obtain ⟨N, hN⟩ : ∃ N, w.heap.size = N := ⟨_, rfl⟩
  have HW : Hid (W = w.alloc (.cells #[.slice av nv cv, .slice ab n cb] 25)) := hW
  have HN : Hid (w.heap.size = N) := hN
  have rN : W.rowIs N 25 2 (fun q => if q = 0 then .slice av nv cv else .slice ab n cb) := by
    rw [hW, ← hN]
    exact World.rowIs_alloc _ _ _ _ fun i hi => by
      simp at hi
      match i, hi with | 0, _ => rfl | 1, _ => rfl
  have HF : Hid (∀ w', Below W.heap.size W w' → w'.cell? ⟨N, 0, none⟩ = some (.slice av nv cv) ∧ w'.cell? ⟨N, 1, none⟩ = some (.slice ab n cb) ∧ N < w'.heap.size) := fun w' hh => by
    have h := rN.of_block (hh.block _ rN.lt)
    exact ⟨h.cell (i := 0) (by omega), h.cell (i := 1) (by omega), h.lt⟩
  have HAB : Hid (∀ (b : Nat) (w' : World), Below W.heap.size W w' → (r = true ↔ ¬ ReachW (succM bs) b block) → Calls Try.prog 61 #[.agg #[.slice av nv cv, .slice ab n cb], .int .i64 b, .int .i64 block] w' fun e w'' => e = .returned (.bool r) ∧ Below w'.heap.size w' w'') := fun b w' hh hrr => by
    have hbb := hbw.trans (hh.mono hbw.size)
    exact above_is bs n nv b block r hrr av ab cv cb w' hbl (hs.below hbb (RBlk.below hbb)) hrg hb hn
  have HB : Hid (SlOf W 3 (RBlk W) (.slice ab n cb) bs) := hs.below hbw (RBlk.below hbw)
  have HRES : Hid (r = true ↔ AheadR (succM bs) sp ((block : Int), (pos : Int))) := hr
  have HM : Hid ((v, sp) ∈ spU bs bs.length ∧ ∀ s, (v, s) ∈ spU bs bs.length → s = sp) := ⟨hm, hu⟩
  have HL : Hid (bs.length = n) := hbl
  have HBW : Hid (Below w.heap.size w W) := hbw
  have f1 := (HF.out W (Below.refl _ _)).2.1
  clear hW hN rN hr hm hu hs hrg hbl hbw
  go_enter Try.func40, Try.ntmps40
  go_upto_region 1 with fail
  rw [← HW.out, HN.out]
  go_wp2_with fail
  clear HW f1
  go_loopw [9] (fun i wr => ∃ b : Nat, i = .int .i64 b ∧ b ≤ n ∧ Hid (Below W.heap.size W wr ∧ ∀ s, (v, s) ∉ spU bs b)) (fun i _ => n - (intOf i).toNat)
  case atStart => exact ⟨0, rfl, Nat.zero_le _, Below.refl _ _, fun s h => by simp [spU] at h⟩
  case round =>
    obtain ⟨b, rfl, hbn, HI⟩ := hrel
    obtain ⟨wo, hwo⟩ : ∃ wo, wo = wr := ⟨_, rfl⟩
    subst hwo
    obtain ⟨f0, f1, lN⟩ := HF.out _ HI.out.1
    by_cases hlt : b < n
    · have hbl : b < bs.length := by rw [HL.out]; exact hlt
      obtain ⟨b5, off5, cs, rfl, hcl5, ⟨vp, vi, ve, rfl, hp, hi, he0⟩, hc⟩ := (HB.out.below HI.out.1 (RBlk.below HI.out.1)).at b hbl
      obtain ⟨ap, cp, rfl, lp⟩ := hp.out
      obtain ⟨ai, ci, rfl, li⟩ := hi.out
      unfold longest at lp li
      have c0 := hc 0 (by simp)
      have c1 := hc 1 (by simp)
      simp at c0 c1
      have HC1 : Hid (wo.cell? ⟨b5, off5 + b * 3 + 1, none⟩ = some (.slice ai bs[b].instrs.length ci) ∧ b5 < wo.heap.size) := ⟨c1, block_lt c1⟩
      obtain ⟨hs, hhs⟩ : ∃ hs, hasI bs[b].params v = hs := ⟨_, rfl⟩
      have HCA := has_at bs[b].params bs[b].params.length rfl ap cp v hs hhs wo hp
      have HIN : Hid (SlOf wo 3 (RIns wo) (.slice ai bs[b].instrs.length ci) bs[b].instrs) := hi
      clear hc hcl5 hp hi he0
      go_wp2_with fail
      refine HCA.mono ?_
      clear HCA
      rintro e w1 ⟨rfl, hb1⟩
      have HB1 : Hid (Below wo.heap.size wo w1) := hb1
      have HBW1 : Hid (Below W.heap.size W w1) := HI.out.1.trans (hb1.mono HI.out.1.size)
      clear f0 f1 lN c0 c1 hb1
      obtain ⟨f0, f1, lN⟩ := HF.out _ HBW1.out
      cases hs
      case true =>
        have HX : Hid (sp = ((b : Int), (-1 : Int))) := (HM.out.2 _ (sp_par hbl (hasI_iff.1 hhs))).symm
        by_cases hbb : (b : Int) = (block : Int)
        · have g1 : ((b : Int) == (block : Int)) = true := by simp [hbb]
          have HR : Hid (true = r) := by
            have : r = true := HRES.out.2 (Or.inl (by rw [HX.out]; exact ⟨hbb, by show (-1 : Int) < (pos : Int); omega⟩))
            exact this.symm
          clear hbb hhs
          go_wp2
          go_ret
          exact ⟨by rw [HR.out]; rfl, HBW.out.trans (HBW1.out.mono HBW.out.size)⟩
        · have g1 : ((b : Int) == (block : Int)) = false := by simp [hbb]
          have HCA := HAB.out b w1 HBW1.out (by
            rw [HRES.out, HX.out]
            unfold AheadR
            simp only [hbb, false_and, false_or, ne_eq, not_false_eq_true, true_and, Int.toNat_natCast])
          clear hbb hhs
          go_wp2_with fail
          refine HCA.mono ?_
          clear HCA
          rintro e w2 ⟨rfl, hb2⟩
          have HB2 : Hid (Below W.heap.size W w2) := HBW1.out.trans (hb2.mono HBW1.out.size)
          go_wp2
          go_ret
          exact ⟨rfl, HBW.out.trans (HB2.out.mono HBW.out.size)⟩
      case false =>
        have HNP : Hid (∀ s, (v, s) ∉ parSp b bs[b].params) := not_par hhs
        have HNB : Hid (∀ s, (v, s) ∉ spU bs b) := HI.out.2
        clear hhs HI
        go_wp2_with fail
        go_loopw [10] (fun x w2 => ∃ i : Nat, x = .int .i64 i ∧ i ≤ bs[b].instrs.length ∧ Hid (Below w1.heap.size w1 w2 ∧ ∀ s, (v, s) ∉ insSpU b bs[b].instrs i)) (fun x _ => bs[b].instrs.length - (intOf x).toNat)
        case atStart => exact ⟨0, rfl, Nat.zero_le _, Below.refl _ _, fun s h => by simp [insSpU] at h⟩
        case round =>
          clear f0 f1 lN
          obtain ⟨i, rfl, hil, HI⟩ := hrel
          have HBr : Hid (Below W.heap.size W wr) := HBW1.out.trans (HI.out.1.mono HBW1.out.size)
          obtain ⟨f0, f1, lN⟩ := HF.out _ HBr.out
          have hor : Below wo.heap.size wo wr := HB1.out.trans (HI.out.1.mono HB1.out.size)
          have c1 := (hor.cell (p := ⟨b5, off5 + b * 3 + 1, none⟩) HC1.out.2).trans HC1.out.1
          by_cases hlti : i < bs[b].instrs.length
          · obtain ⟨b7, off7, cs, rfl, hcl7, ⟨vo, vs, rfl, ho7, hs7⟩, hc7⟩ := (HIN.out.below hor (RIns.below hor)).at i hlti
            obtain ⟨ao, co, rfl, lo⟩ := ho7.out
            obtain ⟨asp, csp, rfl, lsp⟩ := hs7.out
            unfold longest at lo lsp
            have x0 := hc7 0 (by simp)
            have x1 := hc7 1 (by simp)
            have x2 := hc7 2 (by simp)
            simp at x0 x1 x2
            have HXI : Hid (∀ o ∈ bs[b].instrs[i].operands, o.kind = 2 → o.value = v → sp = ((b : Int), (i : Int))) := fun o ho h2 hv => by
              have := sp_ins hbl hlti ho h2
              rw [hv] at this
              exact (HM.out.2 _ this).symm
            have HSU : Hid (insSpU b bs[b].instrs (i + 1) = insSpU b bs[b].instrs i ++ insSp b i bs[b].instrs[i].operands) := insSpU_succ b _ i hlti
            clear hc7 hcl7
            generalize bs[b].instrs[i] = x at *
            obtain ⟨W2, hW2⟩ : ∃ W2, W2 = wr.alloc (.cells #[.int .i64 x.op, .slice ao x.operands.length co, .slice asp x.spoils.length csp] 45) := ⟨_, rfl⟩
            have hb2 : Below wr.heap.size wr W2 := by rw [hW2]; exact (Below.refl _ _).alloc (Nat.le_refl _) _
            have t1 := top_at wr #[.int .i64 x.op, .slice ao x.operands.length co, .slice asp x.spoils.length csp] 45
            have d1 : W2.cell? ⟨wr.heap.size, 1, none⟩ = some (.slice ao x.operands.length co) := by rw [hW2]; exact t1 1
            have HOP : Hid (SlOf W2 5 ROpr (.slice ao x.operands.length co) x.operands) := ho7.below hb2 fun _ _ h => h
            have HW2 : Hid (W2 = wr.alloc (.cells #[.int .i64 x.op, .slice ao x.operands.length co, .slice asp x.spoils.length csp] 45)) := hW2
            have HB2 : Hid (Below w1.heap.size w1 W2) := HI.out.1.trans (hb2.mono HI.out.1.size)
            have HBX : Hid (Below W.heap.size W W2) := HBr.out.trans (hb2.mono HBr.out.size)
            have HNI : Hid (∀ s, (v, s) ∉ insSpU b bs[b].instrs i) := HI.out.2
            obtain ⟨f0', f1', lN'⟩ := HF.out _ HBX.out
            clear hW2 t1 ho7 hs7 HI
            go_upto_region 10 with fail
            rw [← HW2.out]
            clear f0 f1 lN c1 x0 x1 x2 hb2 hor HW2
            go_wp2_with fail
            go_loopw [12] (fun y w3 => ∃ k : Nat, y = .int .i64 k ∧ k ≤ x.operands.length ∧ w3 = W2 ∧ Hid (∀ s, (v, s) ∉ insSp b i (x.operands.take k))) (fun y _ => x.operands.length - (intOf y).toNat)
            case atStart => exact ⟨0, rfl, Nat.zero_le _, rfl, fun s h => by simp [insSp, oprM] at h⟩
            case round =>
              obtain ⟨k, rfl, hk, hw3, HK⟩ := hrel
              subst hw3
              by_cases hltk : k < x.operands.length
              · obtain ⟨b8, off8, cs, rfl, hcl8, rfl, hc8⟩ := HOP.out.at k hltk
                have o0 := hc8 0 (by simp)
                have o1 := hc8 1 (by simp)
                simp at o0 o1
                clear hc8 hcl8
                by_cases hk2 : x.operands[k].kind = 2
                · by_cases hkv : x.operands[k].value = v
                  · have HX : Hid (sp = ((b : Int), (i : Int))) := HXI.out _ (List.getElem_mem hltk) hk2 hkv
                    have g1 : (x.operands[k].kind == 2) = true := by simp [hk2]
                    have g2 : (x.operands[k].value == v) = true := by simp [hkv]
                    clear hk2 hkv
                    by_cases hbb : (b : Int) = (block : Int)
                    · have g3 : ((b : Int) == (block : Int)) = true := by simp [hbb]
                      have HR : Hid (decide (i < pos) = r) := by
                        show _ = _
                        have h := HRES.out
                        rw [HX.out] at h
                        unfold AheadR at h
                        simp only [hbb, true_and, ne_eq, not_true_eq_false, false_and, or_false] at h
                        cases hr : r
                        · exact decide_eq_false (fun hc => by rw [h.2 (by omega)] at hr; cases hr)
                        · exact decide_eq_true (by have := h.1 hr; omega)
                      clear hbb
                      go_wp2
                      go_ret
                      exact ⟨by rw [← HR.out]; rfl, HBW.out.trans (HBX.out.mono HBW.out.size)⟩
                    · have g3 : ((b : Int) == (block : Int)) = false := by simp [hbb]
                      have HCA := HAB.out b wr HBX.out (by
                        rw [HRES.out, HX.out]
                        unfold AheadR
                        simp only [hbb, false_and, false_or, ne_eq, not_false_eq_true, true_and, Int.toNat_natCast])
                      clear hbb
                      go_wp2_with fail
                      refine HCA.mono ?_
                      clear HCA
                      rintro e w2 ⟨rfl, hb2⟩
                      have HB3 : Hid (Below W.heap.size W w2) := HBX.out.trans (hb2.mono HBX.out.size)
                      go_wp2
                      go_ret
                      exact ⟨rfl, HBW.out.trans (HB3.out.mono HBW.out.size)⟩
                  · have g1 : (x.operands[k].kind == 2) = true := by simp [hk2]
                    have g2 : (x.operands[k].value == v) = false := by simp [hkv]
                    have HK2 : Hid (∀ s, (v, s) ∉ insSp b i (x.operands.take (k + 1))) := fun s => by
                      rw [insSp_def b i k x.operands hltk hk2]
                      intro hm
                      rcases List.mem_append.1 hm with hm | hm
                      · exact HK.out s hm
                      · have := List.mem_singleton.1 hm
                        simp only [Prod.mk.injEq] at this
                        exact hkv this.1.symm
                    clear hk2 hkv HK
                    go_wp2
                    go_roundw
                    case rel => exact ⟨k + 1, by go_num, by omega, (by first | rfl | trivial), HK2⟩
                    case measure => simp [intOf]; omega
                · have g1 : (x.operands[k].kind == 2) = false := by simp [hk2]
                  have HK2 : Hid (∀ s, (v, s) ∉ insSp b i (x.operands.take (k + 1))) := fun s => by
                    rw [insSp_use b i k x.operands hltk hk2]
                    exact HK.out s
                  clear hk2 HK
                  go_wp2
                  go_roundw
                  case rel => exact ⟨k + 1, by go_num, by omega, (by first | rfl | trivial), HK2⟩
                  case measure => simp [intOf]; omega
              · have HI2 : Hid (Below w1.heap.size w1 wr ∧ ∀ s, (v, s) ∉ insSpU b bs[b].instrs (i + 1)) := by
                  refine ⟨HB2.out, fun s => ?_⟩
                  rw [HSU.out]
                  intro hm
                  rcases List.mem_append.1 hm with hm | hm
                  · exact HNI.out s hm
                  · have h := HK.out s
                    rw [List.take_of_length_le (by omega)] at h
                    exact h hm
                clear HK
                go_wp2
                go_roundw
                case rel => exact ⟨i + 1, by go_num, by omega, HI2⟩
                case measure => simp [intOf]; omega
          · have HI2 : Hid (Below W.heap.size W wr ∧ ∀ s, (v, s) ∉ spU bs (b + 1)) := by
              refine ⟨HBr.out, fun s => ?_⟩
              rw [spU_succ bs b hbl]
              intro hm
              have h := HI.out.2 s
              rw [show i = bs[b].instrs.length by omega] at h
              rcases List.mem_append.1 hm with hm | hm
              · exact HNB.out s hm
              · rcases List.mem_append.1 hm with hm | hm
                · exact HNP.out s hm
                · exact h hm
            clear HI hor
            go_wp2
            go_roundw
            case rel => exact ⟨b + 1, by go_num, by omega, HI2⟩
            case measure => simp [intOf]; omega
    · exact absurd HM.out.1 (by have := HI.out.2 sp; rw [show b = bs.length by have := HL.out; omega] at this; exact this)
end Go.Proofs.Ytjbjnndmpheedaa
