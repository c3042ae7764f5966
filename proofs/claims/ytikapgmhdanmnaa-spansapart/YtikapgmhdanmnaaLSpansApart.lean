/-
  The walk of SpansApart: spans stand in their order, and do not meet; each value has one.
-/
import Derived.Test.YtikapgmhdanmnaaV18
import Derived.Test.YtikapgmhdanmnaaF9
import Derived.Deep.QuietTactic
import Derived.BigQuiet
namespace Go.Proofs.Ytikapgmhdanmnaa
open Go.RowKit
set_option linter.unusedVariables false

theorem own_rowA {w : World} {base e k n : Nat} {v : Value} {xs : List Value} (h : w.ownsRow base e k v n xs) (hn : 0 < n) : ∃ g cap, v = .slice (some ⟨g, 0, none⟩) n cap ∧ base ≤ g ∧ g < w.heap.size ∧ (∀ j (hj : j < xs.length), w.cell? ⟨g, j, none⟩ = some xs[j]) ∧ ∀ j, w.frozen? ⟨g, j, none⟩ = false := by
  obtain ⟨hlen, h⟩ := h
  rcases h with ⟨rfl, rfl⟩ | ⟨g, cap, cur, rfl, hb, hg, hnc, hc, hcs, htake⟩
  · omega
  · refine ⟨g, cap, rfl, hb, ?_, fun j hj => ?_, fun j => by simp [World.frozen?, hg]⟩
    · rcases Nat.lt_or_ge g w.heap.size with h1 | h1
      · exact h1
      · rw [Array.getElem?_eq_none h1] at hg; cases hg
    · have h1 : xs[j]? = some xs[j] := List.getElem?_eq_getElem hj
      obtain ⟨v, hv'⟩ : ∃ v, xs[j] = v := ⟨_, rfl⟩
      rw [hv'] at h1 ⊢
      rw [← htake, List.getElem?_take, if_pos (by omega)] at h1
      simp only [World.cell?, hg]
      simpa using h1
theorem aprt_at : ∀ {l : List Sp}, Aprt l → ∀ (i : Nat) (hi : i < l.length), (l[i].1 < l[i].2) ∧ ∀ (h0 : 0 < i), (l[i - 1]'(by omega)).2 < l[i].1
  | [], _, i, hi => by simp at hi
  | [x], h, i, hi => by
    have : i = 0 := by simp at hi; exact hi
    subst this
    exact ⟨h, fun h0 => by omega⟩
  | x :: y :: r, h, 0, hi => ⟨h.1, fun h0 => by omega⟩
  | x :: y :: r, h, 1, hi => ⟨(aprt_at h.2.2 0 (by simp)).1, fun _ => h.2.1⟩
  | x :: y :: r, h, i + 2, hi => by
    have h1 := aprt_at h.2.2 (i + 1) (by simpa using hi)
    exact ⟨h1.1, fun _ => h1.2 (by omega)⟩
set_option maxRecDepth 8000 in
set_option maxHeartbeats 8000000 in
theorem spansApart_walk (a : Int) (wa : (Lit.int .i64 a).wf = true) (b : Int) (wb : (Lit.int .i64 b).wf = true) (l : List Pc) (vl : Value) (w : World) (hl : SlOf w 7 RPc vl l) (hp : ∀ p ∈ l, PcF p) :
    Calls Try.prog 5 #[.int .i64 a, .int .i64 b, vl] w fun e w' => e = .returned (.bool true) ∧ Below w.heap.size w w' := by
  obtain ⟨a0, a1⟩ := bounds_i64 wa
  obtain ⟨b0, b1⟩ := bounds_i64 wb
  have HMA := machine_any a b w a0 a1 b0 b1
  have hm0 := machine_bd a
  have hm1 := machine_bd b
  generalize 2 + pickedOf a 9 = m0 at *
  generalize 2 + pickedOf b 9 = m1 at *
  have HM : Hid ((2 ≤ m0 ∧ m0 ≤ 10) ∧ 2 ≤ m1 ∧ m1 ≤ 10) := ⟨hm0, hm1⟩
  have HL : Hid (SlOf w 7 RPc vl l) := hl
  have HP : Hid (∀ p ∈ l, PcOk p ∧ -9223372036854775808 ≤ p.kind ∧ p.kind ≤ 9223372036854775807) := hp
  clear wa wb hl hp hm0 hm1
  go_enter Try.func5, Try.ntmps5
  go_upto_region 2 with (go_at_call 6; refine HMA.mono ?_; rintro e w1 ⟨rfl, hb1⟩)
  obtain ⟨W1, hW1⟩ : ∃ W1, W1 = w1.alloc (.cells #[.int .i64 m0, .int .i64 m1] 25) := ⟨_, rfl⟩
  have r1 : W1.rowIs w1.heap.size 25 2 (fun q => if q = 0 then .int .i64 m0 else .int .i64 m1) := by
    rw [hW1]
    exact World.rowIs_alloc w1 #[.int .i64 m0, .int .i64 m1] 25 _ fun i hi => by
      simp at hi
      match i, hi with | 0, _ => rfl | 1, _ => rfl
  have HB0 : Hid (Below w.heap.size w W1) := by
    show Below _ _ _
    rw [hW1]
    exact hb1.alloc hb1.size _
  rw [← hW1]
  clear hW1 HMA hb1
  obtain ⟨X, hX⟩ : ∃ X, w1.heap.size = X := ⟨_, rfl⟩
  rw [hX] at r1
  rw [hX]
  have f0 : W1.cell? ⟨X, 0, none⟩ = some (.int .i64 m0) := r1.cell (i := 0) (by omega)
  have f1 : W1.cell? ⟨X, 1, none⟩ = some (.int .i64 m1) := r1.cell (i := 1) (by omega)
  have lX := r1.lt
  clear hX r1
  have HFN := ma_func m0 m1 l vl W1 HM.out.1 HM.out.2 (HL.out.below HB0.out fun _ _ h => h) HP.out
  go_wp2_with fail
  refine HFN.mono ?_
  clear HFN
  rintro e w2 ⟨vv, vb, rfl, hv2, hb2, hbw2⟩
  obtain ⟨av, cv, rfl, lv⟩ := hv2.out
  obtain ⟨ab, cb, rfl, lb⟩ := hb2.out
  have HF : Hid (shapeErr (masonM m0 m1 l) m0 m1 = 0) := mason_shape m0 m1 HM.out.1 HM.out.2 l
  have HFL0 : Hid (flowE (masonM m0 m1 l) m0 m1 ((masonM m0 m1 l).blocks.length * (masonM m0 m1 l).blocks.length + 1) = 0) := mason_flow m0 m1 HM.out.1 HM.out.2 l
  generalize hf : masonM m0 m1 l = f at *
  clear hf
  have f0' : w2.cell? ⟨X, 0, none⟩ = some (.int .i64 m0) := (hbw2.cell (p := ⟨X, 0, none⟩) lX).trans f0
  have f1' : w2.cell? ⟨X, 1, none⟩ = some (.int .i64 m1) := (hbw2.cell (p := ⟨X, 1, none⟩) lX).trans f1
  have lX' : X < w2.heap.size := Nat.lt_of_lt_of_le lX hbw2.size
  have HB2 : Hid (Below w.heap.size w w2) := HB0.out.trans (hbw2.mono HB0.out.size)
  have HV2 : Hid (SlOf w2 1 RInt (.slice av f.values.length cv) f.values) := hv2
  have HBL2 : Hid (SlOf w2 3 (RBlk w2) (.slice ab f.blocks.length cb) f.blocks) := hb2
  unfold longest at lv lb
  clear f0 f1 lX HB0 hbw2 hv2 hb2
  generalize hnv : f.values.length = nv at *
  generalize hnb : f.blocks.length = nb at *
  have HNV : Hid (f.values.length = nv) := hnv
  have HNB : Hid (f.blocks.length = nb) := hnb
  clear hnv hnb
  have HFL : Hid (flowE f m0 m1 (nb * nb + 1) = 0) := HFL0
  clear HFL0
  go_upto_region 3 with fail
  obtain ⟨W, hW⟩ : ∃ W, W = w2.alloc (.cells #[.slice av nv cv, .slice ab nb cb] 30) := ⟨_, rfl⟩
  obtain ⟨Y, hY⟩ : ∃ Y, w2.heap.size = Y := ⟨_, rfl⟩
  have rY : W.rowIs Y 30 2 (fun q => if q = 0 then .slice av nv cv else .slice ab nb cb) := by
    rw [hW, ← hY]
    exact World.rowIs_alloc w2 #[.slice av nv cv, .slice ab nb cb] 30 _ fun i hi => by
      simp at hi
      match i, hi with | 0, _ => rfl | 1, _ => rfl
  have hbW : Below w2.heap.size w2 W := by rw [hW]; exact (Below.refl _ _).alloc (Nat.le_refl _) _
  have g0 : W.cell? ⟨Y, 0, none⟩ = some (.slice av nv cv) := rY.cell (i := 0) (by omega)
  have g1 : W.cell? ⟨Y, 1, none⟩ = some (.slice ab nb cb) := rY.cell (i := 1) (by omega)
  have lY := rY.lt
  have f0 : W.cell? ⟨X, 0, none⟩ = some (.int .i64 m0) := (hbW.cell (p := ⟨X, 0, none⟩) lX').trans f0'
  have f1 : W.cell? ⟨X, 1, none⟩ = some (.int .i64 m1) := (hbW.cell (p := ⟨X, 1, none⟩) lX').trans f1'
  have lX : X < W.heap.size := Nat.lt_of_lt_of_le lX' hbW.size
  have HB : Hid (Below w.heap.size w W) := HB2.out.trans (hbW.mono HB2.out.size)
  have HV : Hid (SlOf W 1 RInt (.slice av nv cv) f.values) := HV2.out.below hbW fun _ _ h => h
  have HBL : Hid (SlOf W 3 (RBlk W) (.slice ab nb cb) f.blocks) := HBL2.out.below hbW (RBlk.below hbW)
  rw [← hW, hY]
  clear hW hY rY hbW f0' f1' lX' HB2 HV2 HBL2
  have HD := spans_any f nv nb m0 m1 av ab cv cb HFL.out HNV.out HNB.out W HV.out HBL.out
  go_wp2_with fail
  refine HD.mono ?_
  clear HD
  rintro e w3 ⟨R, vs, I, O, rfl, hps, htold, hRl, hb3⟩
  have HG : Hid (∀ v, v < nv → ∃ (g c : Nat) (l : List Sp), 0 < l.length ∧ l.length ≤ 1000 ∧ Aprt l ∧ g < w3.heap.size ∧ w3.cell? ⟨R, v, none⟩ = some (.slice (some ⟨g, 0, none⟩) l.length c) ∧ ∀ i (hi : i < l.length), w3.cell? ⟨g, i * 2, none⟩ = some (.int .i64 l[i].1) ∧ w3.cell? ⟨g, i * 2 + 1, none⟩ = some (.int .i64 l[i].2)) := fun v hv => by
    have ht' := htold
    have hE : flowE f m0 m1 (f.blocks.length * f.blocks.length + 1) = 0 := by rw [HNB.out]; exact HFL.out
    rw [← HNV.out] at ht' hv
    have hg := spans_good hE ht' v hv
    rw [HNV.out, HNB.out] at hg
    rw [HNV.out] at hv
    have own := hps.own v hv
    have hl := spansM_len f.blocks nv I O v nb
    have hnb16 := (shape_in (flowE_all HFL.out).1).nb
    rw [HNB.out] at hnb16
    have hrow := hps.row.cell hv
    have hpos : 0 < (spansM f.blocks nv I O nb v).length := List.length_pos_iff.2 hg.1
    obtain ⟨g, c, hvk, _, lgg, gc, _⟩ := own_rowA own hpos
    rw [hvk] at hrow own
    refine ⟨g, c, _, hpos, by omega, hg.2, lgg, hrow, fun i hi => ?_⟩
    have h1 := own_cellS own rfl i hi
    exact ⟨h1.1, h1.2.1⟩
  have lR := hps.row.lt
  have HB3 : Hid (Below w.heap.size w w3) := HB.out.trans (hb3.mono HB.out.size)
  have y0 := (hb3.cell (p := ⟨Y, 0, none⟩) lY).trans g0
  clear hps htold hb3 hRl f0 f1 g0 g1 lX lY HV HBL HB HM
  go_wp2_with fail
  clear y0
  go_loopw [38] (fun i wr => ∃ v : Nat, v ≤ nv ∧ i = .int .i64 v ∧ Hid (Below w3.heap.size w3 wr)) (fun i _ => nv - (intOf i).toNat)
  case atStart => exact ⟨0, Nat.zero_le _, rfl, Below.refl _ _⟩
  case round =>
    obtain ⟨v, hv, rfl, HBR⟩ := hrel
    have hb0 := HBR.out
    by_cases hvl : v < nv
    · obtain ⟨g, cg, l', hl0, hl1, hap, hgl, hrow, hcs⟩ := HG.out v hvl
      have r0 := (hb0.cell (p := ⟨R, v, none⟩) lR).trans hrow
      have HAP : Hid (Aprt l') := hap
      have HCS : Hid (∀ w', Below w3.heap.size w3 w' → ∀ i (hi : i < l'.length), w'.cell? ⟨g, i * 2, none⟩ = some (.int .i64 l'[i].1) ∧ w'.cell? ⟨g, i * 2 + 1, none⟩ = some (.int .i64 l'[i].2)) := fun w' hh i hi => ⟨(hh.cell (p := ⟨g, i * 2, none⟩) hgl).trans (hcs i hi).1, (hh.cell (p := ⟨g, i * 2 + 1, none⟩) hgl).trans (hcs i hi).2⟩
      obtain ⟨k, hk⟩ : ∃ k, l'.length = k := ⟨_, rfl⟩
      rw [hk] at r0 hl0 hl1
      have HK : Hid (l'.length = k) := hk
      have qk : ((k : Int) == 0) = false := by simp; omega
      have qk' : ¬ k = 0 := by omega
      clear hap hgl hrow hcs hk hb0
      go_wp2_with fail
      clear r0
      go_loopw [13] (fun i wr => ∃ j : Nat, j ≤ k ∧ i = .int .i64 j ∧ Hid (Below w3.heap.size w3 wr)) (fun i _ => k - (intOf i).toNat)
      case atStart => exact ⟨0, Nat.zero_le _, rfl, HBR⟩
      case round =>
        clear HBR
        obtain ⟨j, hj, rfl, HBR⟩ := hrel
        have hb0 := HBR.out
        by_cases hjl : j < k
        · have hjl' : j < l'.length := by rw [HK.out]; exact hjl
          obtain ⟨a1, a2⟩ := HCS.out wr hb0 j hjl'
          have h1 := aprt_at HAP.out j hjl'
          obtain ⟨x1, hx1⟩ : ∃ x, l'[j].1 = x := ⟨_, rfl⟩
          obtain ⟨x2, hx2⟩ : ∃ x, l'[j].2 = x := ⟨_, rfl⟩
          rw [hx1] at a1 h1
          rw [hx2] at a2 h1
          have q1 : decide (x1 ≥ x2) = false := by have := h1.1; simp; omega
          have q1' : ¬ x2 ≤ x1 := by have := h1.1; omega
          by_cases hj0 : j = 0
          · subst hj0
            simp only [Nat.zero_mul, Nat.zero_add] at a1 a2
            have d0 : (0 : Int) < (k : Int) := by omega
            clear h1 hx1 hx2 hb0
            go_upto_region 14 with fail
            go_quiet (fail)
            go_wp2
            go_roundw
            case rel => exact ⟨1, by omega, by go_num, below_drewN HBR.out _⟩
            case measure => simp [intOf]; omega
          · obtain ⟨a3, a4⟩ := HCS.out wr hb0 (j - 1) (by omega)
            have h2 := h1.2 (by omega)
            obtain ⟨x3, hx3⟩ : ∃ x, (l'[j - 1]'(by omega)).2 = x := ⟨_, rfl⟩
            rw [hx3] at a4 h2
            have q2 : ¬ x1 ≤ x3 := by omega
            have q3 : decide (0 < j) = true := by simp; omega
            have q4 : decide ((0 : Int) < (j : Int)) = true := by simp; omega
            have q5 : 0 < j := by omega
            have q6 : IntKind.i64.wrap ((j : Int) - 1) = (j : Int) - 1 := by rw [IntKind.wrap_i64]; omega
            have q7 : (0 : Int) ≤ (j : Int) - 1 := by omega
            have q8 : (j : Int) - 1 < (k : Int) := by omega
            have q9 : ((j : Int) - 1).toNat = j - 1 := by omega
            have q10 : 1 ≤ j := by omega
            have q11 : j < k + 1 := by omega
            have d0 : (j : Int) < (k : Int) := by omega
            clear h1 h2 hx1 hx2 hx3 hb0 a3
            go_upto_region 14 with fail
            go_quiet (fail)
            go_wp2
            go_roundw
            case rel => exact ⟨j + 1, by omega, by go_num, below_drewN HBR.out _⟩
            case measure => simp [intOf]; omega
        · have HN : Hid (Below w3.heap.size w3 wr) := hb0
          clear hb0 HBR
          go_wp2
          go_roundw
          case rel => exact ⟨v + 1, by omega, by go_num, HN⟩
          case measure => simp [intOf]; omega
    · have HE : Hid (Below w.heap.size w wr) := HB3.out.trans (hb0.mono HB3.out.size)
      clear hb0 HBR
      go_wp2
      go_ret
      exact ⟨rfl, HE.out⟩

end Go.Proofs.Ytikapgmhdanmnaa
