/-
  The contract of 'manyToMany': whether an edge leads from many to many.
-/
import Derived.Test.YtengmgdnpojfjaaFlowB
namespace Go.Proofs.Ytengmgdnpojfjaa
open Go.RowKit
set_option linter.unusedVariables false

def edgeMany (preds : List (List Int)) (e : Edg) : Bool := decide (1 < (preds.getD e.block.toNat []).length)
def blkMany (preds : List (List Int)) (b : Blk) : Bool := decide (2 ≤ b.edges.length) && b.edges.any (edgeMany preds)
def manyL (preds : List (List Int)) (bs : List Blk) : Bool := bs.any (blkMany preds)

theorem anyF_snoc {α : Type} (p : α → Bool) (l : List α) (k : Nat) (h : k < l.length) (h1 : (l.take k).any p = false) (h2 : p l[k] = false) : (l.take (k + 1)).any p = false := by
  rw [List.take_succ_eq_append_getElem h, List.any_append, h1]
  simp [h2]
theorem anyF_at {α : Type} (p : α → Bool) (l : List α) (k : Nat) (h : k < l.length) (h2 : p l[k] = true) : l.any p = true := List.any_eq_true.2 ⟨_, List.getElem_mem h, h2⟩
theorem anyF_end {α : Type} (p : α → Bool) (l : List α) (k : Nat) (h : l.length ≤ k) (h1 : (l.take k).any p = false) : l.any p = false := by
  rw [List.take_of_length_le h] at h1
  exact h1

set_option maxHeartbeats 4000000 in
theorem many_any (n : Nat) (bs : List Blk) (preds : List (List Int)) (ab ap : Option Addr) (cb cp : Nat) (vo vd : Value) (w : World) (hb : SlOf w 3 (RBlk w) (.slice ab bs.length cb) bs) (hp : SlOf w 1 (RRow w) (.slice ap n cp) preds) (hpl : preds.length = n)
    (hrange : ∀ b ∈ bs, ∀ e ∈ b.edges, 0 ≤ e.block ∧ e.block < (n : Int)) :
    Calls Try.prog 35 #[.agg #[.slice ap n cp, vo, vd], .slice ab bs.length cb] w fun e w' => e = .returned (.bool (manyL preds bs)) ∧ Below w.heap.size w w' := by
  obtain ⟨_, _, _, lb⟩ := hb.out
  have lp : preds.length ≤ longest := by
    obtain ⟨_, _, _, h⟩ := hp.out
    exact h
  rw [hpl] at lp
  unfold longest at lb lp
  obtain ⟨res, hres⟩ : ∃ res, manyL preds bs = res := ⟨_, rfl⟩
  rw [hres]
  have HRES : Hid (manyL preds bs = res) := hres
  obtain ⟨W, hW⟩ : ∃ W, W = w.alloc (.cells #[.slice ap n cp, vo, vd] 59) := ⟨_, rfl⟩
  have hbw : Below w.heap.size w W := by rw [hW]; exact (Below.refl _ _).alloc (Nat.le_refl _) _
  have d0 : W.cell? ⟨w.heap.size, 0, none⟩ = some (.slice ap n cp) := by rw [hW]; simp
  have hz : w.heap.size < W.heap.size := by rw [hW]; simp
  have HW : Hid (W = w.alloc (.cells #[.slice ap n cp, vo, vd] 59)) := hW
  have HB : Hid (SlOf w 3 (RBlk w) (.slice ab bs.length cb) bs) := hb
  have HP : Hid (SlOf w 1 (RRow w) (.slice ap n cp) preds) := hp
  have HR : Hid (∀ b ∈ bs, ∀ e ∈ b.edges, 0 ≤ e.block ∧ e.block < (n : Int)) := hrange
  have HD : Hid (W.cell? ⟨w.heap.size, 0, none⟩ = some (.slice ap n cp)) := d0
  have HPL : Hid (preds.length = n) := hpl
  clear hW hb hp hrange hres d0 hpl
  go_enter Try.func35, Try.ntmps35
  go_upto_region 1 with fail
  rw [← HW.out]
  go_wp2_with fail
  go_loopw [11] (fun i wr => ∃ k : Nat, k ≤ bs.length ∧ i = .int .i64 k ∧ Below W.heap.size W wr ∧ Hid ((bs.take k).any (blkMany preds) = false)) (fun i _ => bs.length - (intOf i).toNat)
  case atStart => exact ⟨0, Nat.zero_le _, rfl, Below.refl _ _, rfl⟩
  case round =>
    obtain ⟨k, hk, rfl, hbr, HK⟩ := hrel
    have hb0 : Below w.heap.size w wr := hbw.trans (hbr.mono (Nat.le_of_lt hz))
    by_cases hlt : k < bs.length
    · obtain ⟨b5, off5, cs, rfl, hcl5, ⟨vp, vi, ve, rfl, hp, hi, he0⟩, hc⟩ := HB.out.at k hlt
      obtain ⟨ae, ce, rfl, le⟩ := he0.out
      obtain ⟨ap', cp', rfl, _⟩ := hp.out
      obtain ⟨ai, ci, rfl, _⟩ := hi.out
      unfold longest at le
      have c0 := (hb0.cell (p := ⟨b5, off5 + k * 3 + 0, none⟩) (block_lt (hc 0 (by simp)))).trans (hc 0 (by simp))
      have c1 := (hb0.cell (p := ⟨b5, off5 + k * 3 + 1, none⟩) (block_lt (hc 1 (by simp)))).trans (hc 1 (by simp))
      have c2 := (hb0.cell (p := ⟨b5, off5 + k * 3 + 2, none⟩) (block_lt (hc 2 (by simp)))).trans (hc 2 (by simp))
      simp at c0 c1 c2
      have hrk := HR.out bs[k] (List.getElem_mem hlt)
      have HN : Hid (blkMany preds bs[k] = false → (bs.take (k + 1)).any (blkMany preds) = false) := fun h => anyF_snoc _ _ _ hlt HK.out h
      have HT : Hid (blkMany preds bs[k] = true → true = res) := fun h => by rw [← HRES.out]; exact (anyF_at _ _ _ hlt h).symm
      have HBM : Hid (blkMany preds bs[k] = (decide (2 ≤ bs[k].edges.length) && bs[k].edges.any (edgeMany preds))) := rfl
      generalize blkMany preds bs[k] = bm at *
      clear hc hcl5 hp hi HK
      generalize bs[k].params.length = np at *
      generalize bs[k].instrs.length = ni at *
      generalize bs[k].edges = es at *
      have HE : Hid (SlOf w 2 (REdg w) (.slice ae es.length ce) es) := he0
      have HRK : Hid (∀ e ∈ es, 0 ≤ e.block ∧ e.block < (n : Int)) := hrk
      clear he0 hrk
      by_cases h2 : es.length < 2
      · have q1 : (es.length : Int) < 2 := by omega
        have hF := HN.out (by rw [HBM.out]; simp; omega)
        have HF : Hid _ := hF
        clear hF h2
        go_wp2
        go_roundw
        case rel => exact ⟨k + 1, by omega, by go_num, hbr.alloc hbr.size _, HF⟩
        case measure => simp [intOf]; omega
      · have q1 : ¬ (es.length : Int) < 2 := by omega
        go_wp2_with fail
        obtain ⟨wb, hwb⟩ : ∃ wb, wb = wr.alloc (.cells #[.slice ap' np cp', .slice ai ni ci, .slice ae es.length ce] 50) := ⟨_, rfl⟩
        have hbb : Below W.heap.size W wb := by rw [hwb]; exact hbr.alloc hbr.size _
        rw [← hwb]
        clear hwb hbr hb0 c0 c1 c2
        go_loopw [22] (fun i w2 => ∃ j : Nat, j ≤ es.length ∧ i = .int .i64 j ∧ Below W.heap.size W w2 ∧ Hid ((es.take j).any (edgeMany preds) = false)) (fun i _ => es.length - (intOf i).toNat)
        case atStart => exact ⟨0, Nat.zero_le _, rfl, hbb, rfl⟩
        case round =>
          obtain ⟨j, hj, rfl, hbr, HJ⟩ := hrel
          have hb0 : Below w.heap.size w wr := hbw.trans (hbr.mono (Nat.le_of_lt hz))
          by_cases hjl : j < es.length
          · obtain ⟨b6, off6, cs, rfl, hcl6, ⟨va, rfl, hva⟩, hc⟩ := HE.out.at j hjl
            obtain ⟨aa, ca, rfl, _⟩ := hva.out
            have e0 := (hb0.cell (p := ⟨b6, off6 + j * 2 + 0, none⟩) (block_lt (hc 0 (by simp)))).trans (hc 0 (by simp))
            have e1 := (hb0.cell (p := ⟨b6, off6 + j * 2 + 1, none⟩) (block_lt (hc 1 (by simp)))).trans (hc 1 (by simp))
            simp at e0 e1
            have hrj := HRK.out es[j] (List.getElem_mem hjl)
            have HNJ : Hid (edgeMany preds es[j] = false → (es.take (j + 1)).any (edgeMany preds) = false) := fun h => anyF_snoc _ _ _ hjl HJ.out h
            have HTJ : Hid (edgeMany preds es[j] = true → true = res) := fun h => HT.out (by rw [HBM.out, anyF_at _ _ _ hjl h]; simp; omega)
            have HEM : Hid (edgeMany preds es[j] = decide (1 < (preds.getD es[j].block.toNat []).length)) := rfl
            generalize edgeMany preds es[j] = em at *
            clear hc hcl6 hva HJ
            generalize es[j].args.length = na at *
            generalize es[j].block = t at *
            have ht0 := hrj.1
            have ht1 := hrj.2
            obtain ⟨bp, offp, a', c', rfl, hbp, hcp, _, hll⟩ := rows_at HP.out t ht0 (by rw [HPL.out]; exact ht1)
            unfold longest at hll
            have f0 := (hb0.cell (p := ⟨bp, offp + t.toNat, none⟩) hbp).trans hcp
            have f1 := (hbr.cell (p := ⟨w.heap.size, 0, none⟩) hz).trans HD.out
            generalize (preds.getD t.toNat []).length = ln at *
            have hlb : bp < wr.heap.size := by have := hb0.size; omega
            have hlw : w.heap.size < wr.heap.size := by have := hbr.size; omega
            have LP := old_cell bp
            have LW := old_cell w.heap.size
            have HBE : Hid (Below W.heap.size W (wr.alloc (.cells #[.int .i64 t, .slice aa na ca] 47))) := hbr.alloc hbr.size _
            clear hcp hrj
            by_cases hbig : 1 < ln
            · have q2 : (1 : Int) < ln := by omega
              have H : Hid (true = res) := HTJ.out (by rw [HEM.out]; simp [hbig])
              clear HTJ HNJ HEM hbig
              go_wp2
              go_ret
              exact ⟨ret_bool H.out, hbw.trans (HBE.out.mono (Nat.le_of_lt hz))⟩
            · have q2 : ¬ (1 : Int) < ln := by omega
              have HF : Hid ((es.take (j + 1)).any (edgeMany preds) = false) := HNJ.out (by rw [HEM.out]; simp; omega)
              clear HTJ HNJ HEM hbig
              go_wp2
              go_roundw
              case rel => exact ⟨j + 1, by omega, by go_num, HBE.out, HF⟩
              case measure => simp [intOf]; omega
          · have HF : Hid ((bs.take (k + 1)).any (blkMany preds) = false) := HN.out (by rw [HBM.out, anyF_end _ _ j (by omega) HJ.out]; simp)
            clear HJ
            go_wp2
            go_roundw
            case rel => exact ⟨k + 1, by omega, by go_num, hbr, HF⟩
            case measure => simp [intOf]; omega
    · have H : Hid (false = res) := by show _ = _; rw [← HRES.out]; exact (anyF_end _ _ k (by omega) HK.out).symm
      clear HK
      go_wp2
      go_ret
      exact ⟨ret_bool H.out, hb0⟩
end Go.Proofs.Ytengmgdnpojfjaa
