/-
  The walk of StartsRise: each block has two points, and two for each instruction.
-/
import Derived.Test.YtjpmkamacbenhaaV11
import Derived.Test.YtjpmkamacbenhaaW6
import Derived.Test.YtjpmkamacbenhaaF7
import Derived.Test.YtjpmkamacbenhaaD2
import Derived.Deep.QuietTactic
import Derived.BigQuiet
namespace Go.Proofs.Ytjpmkamacbenhaa
open Go.RowKit
set_option linter.unusedVariables false

theorem start_bd {f : Fn} {m0 m1 : Int} (h : shapeErr f m0 m1 = 0) : ∀ k, k ≤ f.blocks.length → 0 ≤ startM f.blocks k ∧ startM f.blocks k ≤ 1000000 * k := fun k hk => by
  have S := shape_in h
  induction k with
  | zero => simp [startM]
  | succ k ih =>
    have h1 := ih (by omega)
    rw [startM_succ _ _ (by omega)]
    have h2 := S.fits _ (List.getElem_mem (show k < f.blocks.length by omega))
    simp only [blkFits, Bool.and_eq_true, decide_eq_true_eq] at h2
    omega
set_option maxRecDepth 8000 in
set_option maxHeartbeats 8000000 in
theorem startsRise_walk (a : Int) (wa : (Lit.int .i64 a).wf = true) (b : Int) (wb : (Lit.int .i64 b).wf = true) (l : List Pc) (vl : Value) (w : World) (hl : SlOf w 7 RPc vl l) (hp : ∀ p ∈ l, PcF p) :
    Calls Try.prog 6 #[.int .i64 a, .int .i64 b, vl] w fun e w' => e = .returned (.bool true) ∧ Below w.heap.size w w' := by
  obtain ⟨a0, a1⟩ := bounds_i64 wa
  obtain ⟨b0, b1⟩ := bounds_i64 wb
  have HMA := machine_any a b w a0 a1 b0 b1
  have hm0 := machine_bd a
  have hm1 := machine_bd b
  generalize 2 + pickedOf a 9 = m0 at *
  generalize 2 + pickedOf b 9 = m1 at *
  have HM : Hid ((2 ≤ m0 ∧ m0 ≤ 10) ∧ 2 ≤ m1 ∧ m1 ≤ 10) := ⟨hm0, hm1⟩
  have HL : Hid (SlOf w 7 RPc vl l) := hl
  have HP : Hid (∀ p ∈ l, PcOk p ∧ -9223372036854775808 ≤ p.kind ∧ p.kind ≤ 9223372036854775807) := hp
  clear wa wb hl hp hm0 hm1
  go_enter Try.func6, Try.ntmps6
  go_wp2_with (go_at_call 12; refine HMA.mono ?_; rintro e w1 ⟨rfl, hb1⟩)
  have HFN := ma_func m0 m1 l vl w1 HM.out.1 HM.out.2 (HL.out.below hb1 fun _ _ h => h) HP.out
  refine HFN.mono ?_
  clear HFN HMA
  rintro e w2 ⟨vv, vb, rfl, hv2, hb2, hbw2⟩
  obtain ⟨av, cv, rfl, lv⟩ := hv2.out
  obtain ⟨ab, cb, rfl, lb⟩ := hb2.out
  have HF : Hid (shapeErr (masonM m0 m1 l) m0 m1 = 0) := mason_shape m0 m1 HM.out.1 HM.out.2 l
  generalize hf : masonM m0 m1 l = f at *
  clear hf
  have HB2 : Hid (Below w.heap.size w w2) := hb1.trans (hbw2.mono hb1.size)
  have HBL2 : Hid (SlOf w2 3 (RBlk w2) (.slice ab f.blocks.length cb) f.blocks) := hb2
  have hnb16 : f.blocks.length ≤ 16 := (shape_in HF.out).nb
  unfold longest at lv lb
  clear hb1 hbw2 hv2 hb2
  generalize hnv : f.values.length = nv at *
  generalize hnb : f.blocks.length = nb at *
  have HNB : Hid (f.blocks.length = nb) := hnb
  clear hnv hnb
  have HST : Hid (∀ k, (hk : k < f.blocks.length) → ∃ ni : Nat, ni = f.blocks[k].instrs.length ∧ ni ≤ 1000 ∧ ptW (startM f.blocks k) = startM f.blocks k ∧ ptW (startM f.blocks (k + 1)) = startM f.blocks k + 2 + 2 * (ni : Int) ∧ 0 ≤ startM f.blocks k ∧ startM f.blocks k ≤ 100000000) := fun k hk => by
    have hb16 := (shape_in HF.out).nb
    have h1 := start_bd HF.out k (by omega)
    have h2 := start_bd HF.out (k + 1) (by omega)
    have h3 := startM_succ f.blocks k hk
    have h4 := (shape_in HF.out).fits _ (List.getElem_mem hk)
    simp only [blkFits, Bool.and_eq_true, decide_eq_true_eq] at h4
    refine ⟨_, rfl, by omega, ptW_id (by omega) (by omega), ?_, h1.1, by omega⟩
    rw [ptW_id (by omega) (by omega), h3]
    omega
  go_upto_region 2 with fail
  obtain ⟨W, hW⟩ : ∃ W, W = w2.alloc (.cells #[.slice av nv cv, .slice ab nb cb] 25) := ⟨_, rfl⟩
  obtain ⟨Y, hY⟩ : ∃ Y, w2.heap.size = Y := ⟨_, rfl⟩
  have rY : W.rowIs Y 25 2 (fun q => if q = 0 then .slice av nv cv else .slice ab nb cb) := by
    rw [hW, ← hY]
    exact World.rowIs_alloc w2 #[.slice av nv cv, .slice ab nb cb] 25 _ fun i hi => by
      simp at hi
      match i, hi with | 0, _ => rfl | 1, _ => rfl
  have hbW : Below w2.heap.size w2 W := by rw [hW]; exact (Below.refl _ _).alloc (Nat.le_refl _) _
  have g0 : W.cell? ⟨Y, 0, none⟩ = some (.slice av nv cv) := rY.cell (i := 0) (by omega)
  have g1 : W.cell? ⟨Y, 1, none⟩ = some (.slice ab nb cb) := rY.cell (i := 1) (by omega)
  have lY := rY.lt
  have HB : Hid (Below w.heap.size w W) := HB2.out.trans (hbW.mono HB2.out.size)
  have HBL : Hid (SlOf W 3 (RBlk W) (.slice ab nb cb) f.blocks) := HBL2.out.below hbW (RBlk.below hbW)
  rw [← hW, hY]
  clear hW hY rY hbW HB2 HBL2
  have HC := starts_any f.blocks nb nv av ab cv cb W HNB.out HBL.out (by omega)
  go_wp2_with fail
  refine HC.mono ?_
  clear HC
  rintro e w3 ⟨g, cap, rfl, hgl, hs3, hb3⟩
  have y1 := (hb3.cell (p := ⟨Y, 1, none⟩) lY).trans g1
  have lY3 : Y < w3.heap.size := Nat.lt_of_lt_of_le lY hb3.size
  have HB3 : Hid (Below w.heap.size w w3) := HB.out.trans (hb3.mono HB.out.size)
  have HBL3 : Hid (SlOf w3 3 (RBlk w3) (.slice ab nb cb) f.blocks) := HBL.out.below hb3 (RBlk.below hb3)
  have HS3 : Hid (∀ k, k ≤ nb → w3.cell? ⟨g, k, none⟩ = some (.int .i64 (ptW (startM f.blocks k))) ∧ g < w3.heap.size) := fun k hk => by
    have h := rowl_at hs3 k (by rw [startsW_length]; omega)
    have e : (startsW f.blocks (nb + 1)).getD k 0 = ptW (startM f.blocks k) := by
      have hk' : k < nb + 1 := by omega
      simp [startsW, List.getD, hk']
    rw [e] at h
    exact h
  clear hb3 hs3 HBL HB g0 g1 lY
  have s0 := (HS3.out 0 (Nat.zero_le _)).1
  have es0 : ptW (startM f.blocks 0) = 0 := by simp [ptW, startM, wrap64]
  rw [es0] at s0
  have wn : IntKind.i64.wrap ((nb : Int) + 1) = (nb : Int) + 1 := by rw [IntKind.wrap_i64]; omega
  clear es0
  go_wp2_with fail
  clear s0 wn
  go_loopw [34] (fun i wr => ∃ k : Nat, k ≤ nb ∧ i = .int .i64 k ∧ Hid (Below w3.heap.size w3 wr)) (fun i _ => nb - (intOf i).toNat)
  case atStart => exact ⟨0, Nat.zero_le _, rfl, Below.refl _ _⟩
  case round =>
    obtain ⟨k, hk, rfl, HBR⟩ := hrel
    have hb0 := HBR.out
    by_cases hlt : k < nb
    · have hkb : k < f.blocks.length := by rw [HNB.out]; exact hlt
      obtain ⟨b5, off5, cs, rfl, hcl5, ⟨vp, vi, ve, rfl, hp, hi, he0⟩, hc⟩ := HBL3.out.at k hkb
      obtain ⟨ae, ce, rfl, _⟩ := he0.out
      obtain ⟨ap', cp', rfl, _⟩ := hp.out
      obtain ⟨ai, ci, rfl, _⟩ := hi.out
      have c0 := (hb0.cell (p := ⟨b5, off5 + k * 3 + 0, none⟩) (block_lt (hc 0 (by simp)))).trans (hc 0 (by simp))
      have c1 := (hb0.cell (p := ⟨b5, off5 + k * 3 + 1, none⟩) (block_lt (hc 1 (by simp)))).trans (hc 1 (by simp))
      have c2 := (hb0.cell (p := ⟨b5, off5 + k * 3 + 2, none⟩) (block_lt (hc 2 (by simp)))).trans (hc 2 (by simp))
      simp at c0 c1 c2
      obtain ⟨ni, hni, hni1, hp0, hp1, hx0, hx1⟩ := HST.out k hkb
      rw [← hni] at c1
      have t0 := (hb0.cell (p := ⟨g, k, none⟩) (HS3.out k (by omega)).2).trans (HS3.out k (by omega)).1
      have t1 := (hb0.cell (p := ⟨g, k + 1, none⟩) (HS3.out (k + 1) (by omega)).2).trans (HS3.out (k + 1) (by omega)).1
      have lg := Nat.lt_of_lt_of_le (HS3.out k (by omega)).2 hb0.size
      rw [hp0] at t0
      rw [hp1] at t1
      clear hc hcl5 hp hi he0 hp0 hp1 hni
      generalize f.blocks[k].params.length = np at *
      generalize f.blocks[k].edges.length = ne at *
      generalize startM f.blocks k = x0 at *
      go_upto_region 8 with fail
      obtain ⟨W5, hW5⟩ : ∃ W5, W5 = wr.alloc (.cells #[.slice ap' np cp', .slice ai ni ci, .slice ae ne ce] 44) := ⟨_, rfl⟩
      obtain ⟨V, hV⟩ : ∃ V, wr.heap.size = V := ⟨_, rfl⟩
      have b1 : W5.cell? ⟨V, 1, none⟩ = some (.slice ai ni ci) := by rw [hW5, ← hV]; simp
      have hb5 : Below wr.heap.size wr W5 := by rw [hW5]; exact (Below.refl _ _).alloc (Nat.le_refl _) _
      have u0 := (hb5.cell (p := ⟨g, k, none⟩) lg).trans t0
      have u1 := (hb5.cell (p := ⟨g, k + 1, none⟩) lg).trans t1
      have HN : Hid (Below w3.heap.size w3 W5) := hb0.trans (hb5.mono hb0.size)
      rw [← hW5, hV]
      clear hW5 hV hb5 hb0 HBR t0 t1 c0 c1 c2
      have e1 : IntKind.i64.wrap ((k : Int) + 1) = (k : Int) + 1 := by rw [IntKind.wrap_i64]; omega
      have e2 : IntKind.i64.wrap (x0 + 2) = x0 + 2 := by rw [IntKind.wrap_i64]; omega
      have e3 : IntKind.i64.wrap (2 * (ni : Int)) = 2 * (ni : Int) := by rw [IntKind.wrap_i64]; omega
      have e4 : IntKind.i64.wrap (x0 + 2 + 2 * (ni : Int)) = x0 + 2 + 2 * (ni : Int) := by rw [IntKind.wrap_i64]; omega
      have k1 : k + 1 < nb + 1 := by omega
      have k2 : (k : Int) + 1 < (nb : Int) + 1 := by omega
      have k3 : (0 : Int) ≤ (k : Int) + 1 := by omega
      have k4 : ((k : Int) + 1).toNat = k + 1 := by omega
      go_quiet (fail)
      go_wp2
      go_roundw
      case rel => exact ⟨k + 1, by omega, by go_num, below_drewN HN.out _⟩
      case measure => simp [intOf]; omega
    · have HE : Hid (Below w.heap.size w wr) := HB3.out.trans (hb0.mono HB3.out.size)
      clear hb0 HBR
      go_wp2
      go_ret
      exact ⟨rfl, HE.out⟩

end Go.Proofs.Ytjpmkamacbenhaa
