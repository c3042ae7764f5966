/-
  The contracts of the reference's 'Above' and 'edgesInto'.
-/
import Derived.Test.YtjbjnndmpheedaaC7
namespace Go.Proofs.Ytjbjnndmpheedaa
open Go.RowKit
set_option linter.unusedVariables false

set_option maxHeartbeats 4000000 in
theorem above_is (bs : List Blk) (n nv a b : Nat) (r : Bool) (hr : r = true ↔ ¬ ReachW (succM bs) a b) (av ab : Option Addr) (cv cb : Nat) (w : World) (hbl : bs.length = n) (hs : SlOf w 3 (RBlk w) (.slice ab n cb) bs) (hrg : ∀ b ∈ bs, ∀ e ∈ b.edges, 0 ≤ e.block ∧ e.block < (n : Int)) (hb : b < n) (hn : n ≤ 1000) :
    Calls Try.prog 61 #[.agg #[.slice av nv cv, .slice ab n cb], .int .i64 a, .int .i64 b] w fun e w' => e = .returned (.bool r) ∧ Below w.heap.size w w' := by
  obtain ⟨W, hW⟩ : ∃ W, W = w.alloc (.cells #[.slice av nv cv, .slice ab n cb] 25) := ⟨_, rfl⟩
  have hbw : Below w.heap.size w W := by rw [hW]; exact (Below.refl _ _).alloc (Nat.le_refl _) _
  have HW : Hid (W = w.alloc (.cells #[.slice av nv cv, .slice ab n cb] 25)) := hW
  have HC := comeTo_any bs n nv a av ab cv cb W hbl (hs.below hbw (RBlk.below hbw)) hrg (by omega) hn
  have f0 : W.cell? ⟨w.heap.size, 0, none⟩ = some (.slice av nv cv) := by rw [hW]; simp
  have f1 : W.cell? ⟨w.heap.size, 1, none⟩ = some (.slice ab n cb) := by rw [hW]; simp
  have HRR : Hid (r = true ↔ ¬ ReachW (succM bs) a b) := hr
  clear hW hs hrg hbl hr
  go_enter Try.func61, Try.ntmps61
  go_upto_region 1 with fail
  rw [← HW.out]
  go_wp2_with fail
  refine HC.mono ?_
  clear HC
  rintro e w1 ⟨R, rfl, hrow, hR, hb1⟩
  have hbe : Below w.heap.size w w1 := hbw.trans (hb1.mono hbw.size)
  have c0 := hrow.cell hb
  have H : Hid ((!R b) = r) := by
    show _ = _
    have h1 := hR b hb
    have h2 := HRR.out
    cases hx : R b <;> cases hy : r <;> simp_all
  clear hrow hR HRR
  have b1 : ((b : Int) < (n : Int)) := by omega
  go_wp2
  go_ret
  exact ⟨by rw [← H.out]; rfl, hbe⟩

theorem into_step (L : List (Nat × Nat)) (a t i : Nat) : (intoM (L ++ [(a, t)]) i).length = (intoM L i).length + (if t = i then 1 else 0) := by
  rw [intoM_snoc]
  by_cases e : i = t
  · rw [if_pos e, if_pos e.symm]; simp
  · rw [if_neg e, if_neg (fun h => e h.symm)]; rfl
/-- The edges of the first b blocks, and k of the next one. -/
def pairsK (bs : List Blk) (b k : Nat) : List (Nat × Nat) := pairsUpto bs b ++ ((succM bs b).take k).map fun t => (b, t)
theorem pairsK_zero (bs : List Blk) (b : Nat) : pairsK bs b 0 = pairsUpto bs b := by simp [pairsK]
theorem pairsK_succ (bs : List Blk) (b k : Nat) (h : k < (succM bs b).length) : pairsK bs b (k + 1) = pairsK bs b k ++ [(b, (succM bs b)[k])] := by
  unfold pairsK
  rw [List.take_succ_eq_append_getElem h, List.map_append, List.append_assoc]
  rfl
theorem pairsK_end (bs : List Blk) (b k : Nat) (h : (succM bs b).length ≤ k) : pairsK bs b k = pairsUpto bs (b + 1) := by
  unfold pairsK pairsUpto
  rw [List.take_of_length_le h, List.range_succ, List.flatMap_append]
  simp
theorem intoM_le (L : List (Nat × Nat)) (i : Nat) : (intoM L i).length ≤ L.length := by
  unfold intoM
  rw [List.length_map]
  exact List.length_filter_le _ _
theorem pairsUpto_le (bs : List Blk) : ∀ b d, (pairsUpto bs b).length ≤ (pairsUpto bs (b + d)).length
  | b, 0 => Nat.le_refl _
  | b, d + 1 => by
    have h := pairsUpto_le bs b d
    have e : pairsUpto bs (b + d + 1) = pairsUpto bs (b + d) ++ (succM bs (b + d)).map fun t => (b + d, t) := by
      unfold pairsUpto
      rw [List.range_succ, List.flatMap_append]
      simp
    rw [show b + (d + 1) = b + d + 1 by omega, e]
    simp
    omega
theorem pairsK_le (bs : List Blk) (b k : Nat) (hb : b < bs.length) : (pairsK bs b k).length ≤ (pairsM bs).length := by
  have h1 : (pairsK bs b k).length ≤ (pairsUpto bs (b + 1)).length := by
    rw [← pairsK_end bs b (succM bs b).length (Nat.le_refl _)]
    unfold pairsK
    simp
    omega
  have h2 := pairsUpto_le bs (b + 1) (bs.length - (b + 1))
  rw [show b + 1 + (bs.length - (b + 1)) = bs.length by omega] at h2
  exact Nat.le_trans h1 h2

set_option maxRecDepth 4000 in
set_option maxHeartbeats 4000000 in
theorem edgesInto_is (bs : List Blk) (n nv t : Nat) (r : Int) (hr : ((predsL bs).getD t []).length = r) (av ab : Option Addr) (cv cb : Nat) (w : World) (hbl : bs.length = n) (hs : SlOf w 3 (RBlk w) (.slice ab n cb) bs) (hrg : ∀ b ∈ bs, ∀ e ∈ b.edges, 0 ≤ e.block ∧ e.block < (n : Int)) (ht : t < n) (hfew : (pairsM bs).length ≤ 100000) :
    Calls Try.prog 39 #[.agg #[.slice av nv cv, .slice ab n cb], .int .i64 t] w fun e w' => e = .returned (.int .i64 r) ∧ Below w.heap.size w w' := by
  obtain ⟨W, hW⟩ : ∃ W, W = w.alloc (.cells #[.slice av nv cv, .slice ab n cb] 25) := ⟨_, rfl⟩
  have hbw : Below w.heap.size w W := by rw [hW]; exact (Below.refl _ _).alloc (Nat.le_refl _) _
  have HW : Hid (W = w.alloc (.cells #[.slice av nv cv, .slice ab n cb] 25)) := hW
  have f1 : W.cell? ⟨w.heap.size, 1, none⟩ = some (.slice ab n cb) := by rw [hW]; simp
  have HB : Hid (SlOf W 3 (RBlk W) (.slice ab n cb) bs) := hs.below hbw (RBlk.below hbw)
  have HR : Hid (∀ b ∈ bs, ∀ e ∈ b.edges, 0 ≤ e.block ∧ e.block < (n : Int)) := hrg
  have HL : Hid (bs.length = n) := hbl
  have HF : Hid ((pairsM bs).length ≤ 100000) := hfew
  have HE : Hid (((intoM (pairsUpto bs n) t).length : Int) = r) := by
    show _ = _
    rw [← hr]
    unfold predsL
    simp [List.getD, hbl, ht, pairsM]
  clear hW hs hrg hbl hfew hr
  have lb : n ≤ 140737488355328 := by
    have := HB.out.out
    obtain ⟨_, _, _, h⟩ := this
    rw [HL.out] at h
    unfold longest at h
    exact h
  go_enter Try.func39, Try.ntmps39
  go_upto_region 1 with fail
  rw [← HW.out]
  go_wp2_with fail
  clear HW
  go_loopw [5, 6] (fun x i wr => ∃ (b c : Nat), x = .int .i64 c ∧ i = .int .i64 b ∧ b ≤ n ∧ wr = W ∧ Hid ((intoM (pairsUpto bs b) t).length = c)) (fun _ i _ => n - (intOf i).toNat)
  case atStart => exact ⟨0, 0, rfl, rfl, Nat.zero_le _, rfl, rfl⟩
  case round =>
    obtain ⟨b, c, rfl, rfl, hb, rfl, HK⟩ := hrel
    by_cases hlt : b < n
    · have hbn : b < bs.length := by rw [HL.out]; exact hlt
      obtain ⟨b5, off5, cs, rfl, hcl5, ⟨vp, vi, ve, rfl, hp, hi, he0⟩, hc⟩ := HB.out.at b hbn
      obtain ⟨ae, ce, rfl, le⟩ := he0.out
      unfold longest at le
      have c2 := hc 2 (by simp)
      simp at c2
      have HED : Hid (SlOf wr 2 (REdg wr) (.slice ae bs[b].edges.length ce) bs[b].edges) := he0
      have HSC : Hid (succM bs b = bs[b].edges.map fun e => e.block.toNat) := succM_at _ _ hbn
      have HRE : Hid (∀ e ∈ bs[b].edges, 0 ≤ e.block ∧ e.block < (n : Int)) := HR.out _ (List.getElem_mem hbn)
      clear hc hcl5 hp hi he0
      generalize bs[b].edges = es at *
      go_wp2
      go_loopw [5, 7] (fun x i w2 => ∃ (k c : Nat), x = .int .i64 c ∧ i = .int .i64 k ∧ k ≤ es.length ∧ w2 = wr ∧ Hid ((intoM (pairsK bs b k) t).length = c)) (fun _ i _ => es.length - (intOf i).toNat)
      case atStart => exact ⟨0, c, rfl, rfl, Nat.zero_le _, rfl, by rw [pairsK_zero]; exact HK⟩
      case round =>
        clear HK
        obtain ⟨k, c, rfl, rfl, hk, hw2, HK⟩ := hrel
        subst hw2
        by_cases hltk : k < es.length
        · obtain ⟨b6, off6, cs, rfl, hcl6, ⟨va, rfl, ha⟩, hc6⟩ := HED.out.at k hltk
          have e0 := hc6 0 (by simp)
          simp at e0
          have hk' : k < (succM bs b).length := by rw [HSC.out]; simpa using hltk
          have hcb : c ≤ 100000 := by
            have h1 := intoM_le (pairsK bs b k) t
            have h2 := pairsK_le bs b k hbn
            have := HK.out
            have := HF.out
            omega
          have HK2 : Hid ((intoM (pairsK bs b (k + 1)) t).length = c + (if es[k].block = (t : Int) then 1 else 0)) := by
            show _ = _
            have e : (succM bs b)[k] = es[k].block.toNat := by simp [HSC.out]
            rw [pairsK_succ bs b k hk', e, into_step, HK.out]
            have := HRE.out _ (List.getElem_mem hltk)
            congr 1
            by_cases h : es[k].block = (t : Int)
            · rw [if_pos h, if_pos (by omega)]
            · rw [if_neg h, if_neg (by omega)]
          clear hc6 hcl6 ha hk' HK
          generalize es[k].block = u at *
          by_cases hu : u = (t : Int)
          · have g1 : (u == (t : Int)) = true := by simp [hu]
            have HK3 : Hid ((intoM (pairsK bs b (k + 1)) t).length = c + 1) := by
              have := HK2.out
              rw [if_pos hu] at this
              exact this
            clear hu HK2
            go_wp2
            go_roundw
            case rel => exact ⟨k + 1, c + 1, by go_num, by go_num, by omega, (by first | rfl | trivial), HK3⟩
            case measure => simp [intOf]; omega
          · have g1 : (u == (t : Int)) = false := by simp [hu]
            have HK3 : Hid ((intoM (pairsK bs b (k + 1)) t).length = c) := by
              have := HK2.out
              rw [if_neg hu] at this
              exact this
            clear hu HK2
            go_wp2
            go_roundw
            case rel => exact ⟨k + 1, c, rfl, by go_num, by omega, (by first | rfl | trivial), HK3⟩
            case measure => simp [intOf]; omega
        · have HK3 : Hid ((intoM (pairsUpto bs (b + 1)) t).length = c) := by
            have := HK.out
            rw [pairsK_end bs b k (by rw [HSC.out]; simp; omega)] at this
            exact this
          clear HK
          go_wp2
          go_roundw
          case rel => exact ⟨b + 1, c, rfl, by go_num, by omega, (by first | rfl | trivial), HK3⟩
          case measure => simp [intOf]; omega
    · have H : Hid ((c : Int) = r) := by
        show _ = _
        rw [← HE.out, ← HK.out, show b = n by omega]
      clear HK
      go_wp2
      go_ret
      exact ⟨ret_int H.out, hbw⟩
end Go.Proofs.Ytjbjnndmpheedaa
