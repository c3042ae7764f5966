/-
  The contract of the reference's 'comeTo': the blocks to which one comes without passing one by.
-/
import Derived.Test.YtjbjnndmpheedaaC6
import Derived.Test.YtjbjnndmpheedaaF2
import Derived.Laws.MakeOwn
import Derived.Deep.OwnRows
namespace Go.Proofs.Ytjbjnndmpheedaa
open Go.RowKit
set_option linter.unusedVariables false

/-- A row of truth values, as it is read from memory. -/
def rowB (w : World) (b : Nat) : Nat → Bool := fun i => match w.cell? ⟨b, i, none⟩ with | some (.bool x) => x | _ => false
def isTr : Value → Nat | .bool true => 1 | _ => 0
/-- The function's box, and the row of what was found. -/
structure CmS (w0 : World) (N n : Nat) (vv vb : Value) (R : Nat → Bool) (w : World) : Prop where
  bx : w.rowIs N 25 2 (fun q => if q = 0 then vv else vb)
  row : w.rowIs (N + 1) 4 n (fun i => .bool (R i))
  low : Below N w0 w
theorem CmS.up {w0 : World} {N n : Nat} {vv vb : Value} {R : Nat → Bool} {w : World} (h : CmS w0 N n vv vb R w) (t : Nat) (x : Bool) : CmS w0 N n vv vb (upB R t x) (w.setCell ⟨N + 1, t, none⟩ (.bool x)) := by
  refine ⟨h.bx.setOther (by simp) _, (h.row.set t _).congr fun i hi => ?_, h.low.setCell (by simp) _⟩
  unfold upB
  by_cases e : i = t
  · rw [if_pos e, if_pos e]
  · rw [if_neg e, if_neg e]
theorem CmS.cnt {w0 : World} {N n : Nat} {vv vb : Value} {R : Nat → Bool} {w : World} (h : CmS w0 N n vv vb R w) : unfB n (rowB w (N + 1)) = unfB n R := unfB_congr fun t ht => by
  unfold rowB
  rw [h.row.cell ht]
theorem ShutW.up {sc : Nat → List Nat} {a : Int} {R : Nat → Bool} {b t : Nat} (h : ShutW sc a R b) (hb : b ≠ t) : ShutW sc a (upB R t true) b := by
  intro hr u hu hne
  unfold upB at hr ⊢
  rw [if_neg hb] at hr
  by_cases e : u = t
  · rw [if_pos e]
  · rw [if_neg e]; exact h hr u hu hne
/-- The edges of a block up to number k lead to what was found. -/
def ShutK (bs : List Blk) (a : Int) (R : Nat → Bool) (b k : Nat) : Prop := ∀ t ∈ (succM bs b).take k, (t : Int) ≠ a → R t = true
/-- What holds between two sweeps: nothing was found since 'changed' was false. -/
def SwI (bs : List Blk) (n : Nat) (a : Int) (R0 R : Nat → Bool) (ch : Bool) (b : Nat) : Prop :=
  Found (succM bs) a n R ∧ (ch = false → R = R0 ∧ ∀ c, c < b → ShutW (succM bs) a R c) ∧ (ch = true → unfB n R < unfB n R0)

set_option maxRecDepth 4000 in
set_option maxHeartbeats 8000000 in
theorem comeTo_any (bs : List Blk) (n nv : Nat) (a : Int) (av ab : Option Addr) (cv cb : Nat) (w : World) (hbl : bs.length = n) (hs : SlOf w 3 (RBlk w) (.slice ab n cb) bs) (hr : ∀ b ∈ bs, ∀ e ∈ b.edges, 0 ≤ e.block ∧ e.block < (n : Int)) (hpos : 0 < n) (hn : n ≤ 1000) :
    Calls Try.prog 38 #[.agg #[.slice av nv cv, .slice ab n cb], .int .i64 a] w fun e w' => ∃ R : Nat → Bool, e = .returned (.slice (some ⟨w.heap.size + 1, 0, none⟩) n n) ∧ w'.rowIs (w.heap.size + 1) 4 n (fun i => .bool (R i)) ∧ (∀ t, t < n → (R t = true ↔ ReachW (succM bs) a t)) ∧ Below w.heap.size w w' := by
  have hmk := run_make_row' (P := Try.prog) 102 4 (.bool false) 1 Try.underlying102 (by kernel_rfl) rfl .i64 .i64 n (by omega) (by omega)
  obtain ⟨N, hN⟩ : ∃ N, w.heap.size = N := ⟨_, rfl⟩
  obtain ⟨W, hW⟩ : ∃ W, W = (w.alloc (.cells #[.slice av nv cv, .slice ab n cb] 25)).alloc (.cells (madeCells #[.bool false] n) 4) := ⟨_, rfl⟩
  obtain ⟨z, hz⟩ : ∃ z, (a != 0) = z := ⟨_, rfl⟩
  have hst : CmS w N n (.slice av nv cv) (.slice ab n cb) (fun _ => false) W := by
    rw [hW]
    have r0 : (w.alloc (.cells #[.slice av nv cv, .slice ab n cb] 25)).rowIs w.heap.size 25 2 (fun q => if q = 0 then .slice av nv cv else .slice ab n cb) :=
      World.rowIs_alloc _ _ _ _ fun i hi => by
        simp at hi
        match i, hi with | 0, _ => rfl | 1, _ => rfl
    have r1 := World.rowIs_made (w.alloc (.cells #[.slice av nv cv, .slice ab n cb] 25)) (.bool false) n 4
    have e : (w.alloc (.cells #[.slice av nv cv, .slice ab n cb] 25)).heap.size = N + 1 := by simp [hN]
    rw [e] at r1
    rw [hN] at r0
    exact ⟨r0.alloc _, r1, ((Below.refl _ _).alloc (by omega) _).alloc (by rw [e]; omega) _⟩
  have HS1 : Hid (CmS w N n (.slice av nv cv) (.slice ab n cb) (upB (fun _ => false) 0 z) (W.setCell ⟨N + 1, 0, none⟩ (.bool z))) := hst.up 0 z
  have HF1 : Hid (Found (succM bs) a n (upB (fun _ => false) 0 z)) := by
    refine ⟨fun t ht h => ?_, fun h0 => ?_⟩
    · unfold upB at h
      by_cases e : t = 0
      · rw [if_pos e] at h
        rw [e]
        refine .zero fun h0 => ?_
        rw [h, h0] at hz
        simp at hz
      · rw [if_neg e] at h
        cases h
    · unfold upB
      rw [if_pos rfl, ← hz]
      simpa using h0
  have c0 := hst.row.cell (i := 0) hpos
  have z0 := hst.row.frozen 0
  have lN : N + 1 < W.heap.size := hst.row.lt
  have HW : Hid (W = (w.alloc (.cells #[.slice av nv cv, .slice ab n cb] 25)).alloc (.cells (madeCells #[.bool false] n) 4)) := hW
  have HN : Hid (w.heap.size = N) := hN
  have HB : Hid (SlOf w 3 (RBlk w) (.slice ab n cb) bs) := hs
  have HR : Hid (∀ b ∈ bs, ∀ e ∈ b.edges, 0 ≤ e.block ∧ e.block < (n : Int)) := hr
  have HL : Hid (bs.length = n) := hbl
  clear hW hst hN hs hr hbl
  go_enter Try.func38, Try.ntmps38
  go_upto_region 2 with fail
  rw [← HW.out, HN.out]
  have p0 : (0 : Int) < (n : Int) := by omega
  go_wp2_with fail
  clear hmk c0 z0 lN hz
  obtain ⟨W1, hW1⟩ : ∃ W1, W1 = W.setCell ⟨N + 1, 0, none⟩ (.bool z) := ⟨_, rfl⟩
  rw [← hW1]
  rw [← hW1] at HS1
  clear hW1 HW
  go_loopw [6] (fun c wr => ∃ (R : Nat → Bool) (ch : Bool), c = .bool ch ∧ Hid (CmS w N n (.slice av nv cv) (.slice ab n cb) R wr ∧ Found (succM bs) a n R ∧ (ch = false → ∀ b, b < n → ShutW (succM bs) a R b))) (fun c wr => 2 * unfB n (rowB wr (N + 1)) + isTr c)
  case atStart => exact ⟨_, true, rfl, HS1.out, HF1.out, fun h => by cases h⟩
  case round =>
    clear HS1 HF1
    obtain ⟨R0, ch0, rfl, HI0⟩ := hrel
    cases ch0
    case false =>
      have HE : Hid (wr.rowIs (N + 1) 4 n (fun i => .bool (R0 i)) ∧ (∀ t, t < n → (R0 t = true ↔ ReachW (succM bs) a t)) ∧ Below N w wr) := ⟨HI0.out.1.row, HI0.out.2.1.end (fun b t h => by rw [← HL.out]; exact succ_in h) (HI0.out.2.2 rfl), HI0.out.1.low⟩
      clear HI0
      go_wp2
      go_ret
      exact ⟨R0, by rw [HN.out]; rfl, by rw [HN.out]; exact HE.out⟩
    case true =>
      obtain ⟨wr0, hwr0⟩ : ∃ wr0, wr0 = wr := ⟨_, rfl⟩
      have HU0 : Hid (unfB n (rowB wr0 (N + 1)) = unfB n R0) := by rw [hwr0]; exact HI0.out.1.cnt
      have HWR : Hid (wr0 = wr) := hwr0
      clear hwr0
      go_wp2
      go_loopw [6, 7] (fun c i wr => ∃ (R : Nat → Bool) (ch : Bool) (b : Nat), c = .bool ch ∧ i = .int .i64 b ∧ b ≤ n ∧ Hid (CmS w N n (.slice av nv cv) (.slice ab n cb) R wr ∧ SwI bs n a R0 R ch b)) (fun _ i _ => n - (intOf i).toNat)
      case atStart => exact ⟨R0, false, 0, rfl, rfl, Nat.zero_le _, HI0.out.1, HI0.out.2.1, fun _ => ⟨rfl, fun c hc => by omega⟩, fun h => by cases h⟩
      case round =>
        clear HI0
        obtain ⟨R, ch, b, rfl, rfl, hb, HI⟩ := hrel
        have f1 : wr.cell? ⟨N, 1, none⟩ = some (.slice ab n cb) := HI.out.1.bx.cell (i := 1) (by omega)
        by_cases hlt : b < n
        · have hbn : b < bs.length := by rw [HL.out]; exact hlt
          obtain ⟨b5, off5, cs, rfl, hcl5, ⟨vp, vi, ve, rfl, hp, hi, he0⟩, hc⟩ := HB.out.at b hbn
          obtain ⟨ae, ce, rfl, le⟩ := he0.out
          obtain ⟨ap, cp, rfl, _⟩ := hp.out
          obtain ⟨ai, ci, rfl, _⟩ := hi.out
          unfold longest at le
          have HC : Hid (w.cell? ⟨b5, off5 + b * 3 + 1 + 1, none⟩ = some (.slice ae bs[b].edges.length ce) ∧ b5 < N) := ⟨hc 2 (by simp), by have := block_lt (hc 2 (by simp)); have := HN.out; omega⟩
          have HED : Hid (SlOf w 2 (REdg w) (.slice ae bs[b].edges.length ce) bs[b].edges) := he0
          have HRE : Hid (∀ e ∈ bs[b].edges, 0 ≤ e.block ∧ e.block < (n : Int)) := HR.out _ (List.getElem_mem hbn)
          have HSC : Hid (succM bs b = bs[b].edges.map fun e => e.block.toNat) := succM_at _ _ hbn
          clear hc hcl5 hp hi he0
          generalize bs[b].edges = es at *
          go_wp2
          go_loopw [6, 8] (fun c i wr => ∃ (R : Nat → Bool) (ch : Bool) (k : Nat), c = .bool ch ∧ i = .int .i64 k ∧ k ≤ es.length ∧ Hid (CmS w N n (.slice av nv cv) (.slice (some ⟨b5, off5, none⟩) n cb) R wr ∧ SwI bs n a R0 R ch b ∧ (ch = false → ShutK bs a R b k))) (fun _ i _ => es.length - (intOf i).toNat)
          case atStart => exact ⟨R, ch, 0, rfl, rfl, Nat.zero_le _, HI.out.1, HI.out.2, fun _ t ht => by simp at ht⟩
          case round =>
            clear HI f1
            obtain ⟨R, ch, k, rfl, rfl, hk, HI⟩ := hrel
            have f1 : wr.cell? ⟨N, 1, none⟩ = some (.slice (some ⟨b5, off5, none⟩) n cb) := HI.out.1.bx.cell (i := 1) (by omega)
            have hlow := HI.out.1.low
            have c2 := (hlow.cell (p := ⟨b5, off5 + b * 3 + 1 + 1, none⟩) HC.out.2).trans HC.out.1
            have rb := HI.out.1.row.cell hlt
            by_cases hltk : k < es.length
            · obtain ⟨rv, hrv⟩ : ∃ rv, R b = rv := ⟨_, rfl⟩
              rw [hrv] at rb
              have HRV : Hid (R b = rv) := hrv
              clear hrv
              cases rv
              case false =>
                have HX : Hid (CmS w N n (.slice av nv cv) (.slice (some ⟨b5, off5, none⟩) n cb) R wr ∧ SwI bs n a R0 R ch (b + 1)) := by
                  refine ⟨HI.out.1, HI.out.2.1.1, fun h => ⟨(HI.out.2.1.2.1 h).1, fun c hc => ?_⟩, HI.out.2.1.2.2⟩
                  by_cases e : c = b
                  · subst e
                    intro hr'
                    rw [HRV.out] at hr'
                    cases hr'
                  · exact (HI.out.2.1.2.1 h).2 c (by omega)
                clear HI hlow
                go_wp2
                go_roundw
                case rel => exact ⟨R, ch, b + 1, rfl, by go_num, by omega, HX⟩
                case measure => simp [intOf]; omega
              case true =>
                obtain ⟨b6, off6, cs, rfl, hcl6, ⟨va, rfl, ha⟩, hc6⟩ := HED.out.at k hltk
                have e0 := (hlow.cell (p := ⟨b6, off6 + k * 2 + 0, none⟩) (show b6 < N by have := block_lt (hc6 0 (by simp)); have := HN.out; omega)).trans (hc6 0 (by simp))
                simp at e0
                obtain ⟨t0, t1⟩ := HRE.out _ (List.getElem_mem hltk)
                have HT : Hid ((succM bs b).take (k + 1) = (succM bs b).take k ++ [es[k].block.toNat] ∧ es[k].block.toNat ∈ succM bs b) := by
                  have hk' : k < (succM bs b).length := by rw [HSC.out]; simpa using hltk
                  have e : (succM bs b)[k] = es[k].block.toNat := by simp [HSC.out]
                  exact ⟨by rw [List.take_succ_eq_append_getElem hk', e], by rw [← e]; exact List.getElem_mem _⟩
                clear hc6 hcl6 ha hlow
                generalize es[k].block = t at *
                have et : ((t.toNat : Nat) : Int) = t := by omega
                have HET : Hid (((t.toNat : Nat) : Int) = t) := et
                clear et
                have ht : t.toNat < n := by omega
                have rt := HI.out.1.row.cell ht
                have zt := HI.out.1.row.frozen t.toNat
                by_cases hta : t = a
                · have g1 : (t != a) = false := by simp [hta]
                  have HX : Hid (CmS w N n (.slice av nv cv) (.slice (some ⟨b5, off5, none⟩) n cb) R wr ∧ SwI bs n a R0 R ch b ∧ (ch = false → ShutK bs a R b (k + 1))) := by
                    refine ⟨HI.out.1, HI.out.2.1, fun h u hu hne => ?_⟩
                    rw [HT.out.1] at hu
                    rcases List.mem_append.1 hu with hu | hu
                    · exact HI.out.2.2 h u hu hne
                    · rw [List.mem_singleton.1 hu, HET.out] at hne
                      exact absurd hta hne
                  clear HI hta
                  go_wp2
                  go_roundw
                  case rel => exact ⟨R, ch, k + 1, rfl, by go_num, by omega, HX⟩
                  case measure => simp [intOf]; omega
                · have g1 : (t != a) = true := by simp [hta]
                  have HTA : Hid (t ≠ a) := hta
                  obtain ⟨tv, htv⟩ : ∃ tv, R t.toNat = tv := ⟨_, rfl⟩
                  rw [htv] at rt
                  have HTV : Hid (R t.toNat = tv) := htv
                  clear htv hta
                  cases tv
                  case true =>
                    have HX : Hid (CmS w N n (.slice av nv cv) (.slice (some ⟨b5, off5, none⟩) n cb) R wr ∧ SwI bs n a R0 R ch b ∧ (ch = false → ShutK bs a R b (k + 1))) := by
                      refine ⟨HI.out.1, HI.out.2.1, fun h u hu hne => ?_⟩
                      rw [HT.out.1] at hu
                      rcases List.mem_append.1 hu with hu | hu
                      · exact HI.out.2.2 h u hu hne
                      · rw [List.mem_singleton.1 hu]
                        exact HTV.out
                    clear HI
                    go_wp2
                    go_roundw
                    case rel => exact ⟨R, ch, k + 1, rfl, by go_num, by omega, HX⟩
                    case measure => simp [intOf]; omega
                  case false =>
                    have HX : Hid (CmS w N n (.slice av nv cv) (.slice (some ⟨b5, off5, none⟩) n cb) (upB R t.toNat true) (wr.setCell ⟨N + 1, t.toNat, none⟩ (.bool true)) ∧ SwI bs n a R0 (upB R t.toNat true) true b ∧ (true = false → ShutK bs a (upB R t.toNat true) b (k + 1))) := by
                      refine ⟨HI.out.1.up t.toNat true, ⟨HI.out.2.1.1.up hlt HRV.out HT.out.2 (by rw [HET.out]; exact HTA.out), fun h => absurd h (by simp), fun _ => ?_⟩, fun h => absurd h (by simp)⟩
                      have h1 := unfB_up (n := n) ht HTV.out
                      cases hch : ch
                      · rw [(HI.out.2.1.2.1 hch).1] at h1 ⊢
                        exact h1
                      · have := HI.out.2.1.2.2 hch
                        omega
                    clear HI
                    go_wp2
                    go_roundw
                    case rel => exact ⟨upB R t.toNat true, true, k + 1, rfl, by go_num, by omega, HX⟩
                    case measure => simp [intOf]; omega
            · have hke : k = es.length := by omega
              have HX : Hid (CmS w N n (.slice av nv cv) (.slice (some ⟨b5, off5, none⟩) n cb) R wr ∧ SwI bs n a R0 R ch (b + 1)) := by
                refine ⟨HI.out.1, HI.out.2.1.1, fun h => ⟨(HI.out.2.1.2.1 h).1, fun c hc => ?_⟩, HI.out.2.1.2.2⟩
                by_cases e : c = b
                · subst e
                  intro _ u hu hne
                  refine HI.out.2.2 h u ?_ hne
                  rw [List.take_of_length_le (by rw [HSC.out]; simp; omega)]
                  exact hu
                · exact (HI.out.2.1.2.1 h).2 c (by omega)
              clear HI hlow hke rb
              go_wp2
              go_roundw
              case rel => exact ⟨R, ch, b + 1, rfl, by go_num, by omega, HX⟩
              case measure => simp [intOf]; omega
        · have hbe : b = n := by omega
          have HX : Hid (CmS w N n (.slice av nv cv) (.slice ab n cb) R wr ∧ Found (succM bs) a n R ∧ (ch = false → ∀ b, b < n → ShutW (succM bs) a R b)) := ⟨HI.out.1, HI.out.2.1, fun h b' hb' => (HI.out.2.2.1 h).2 b' (by omega)⟩
          have HM : Hid (2 * unfB n (rowB wr (N + 1)) + isTr (.bool ch) < 2 * unfB n (rowB wr0 (N + 1)) + 1) := by
            show _ < _
            rw [HI.out.1.cnt, HU0.out]
            cases hch : ch
            · rw [(HI.out.2.2.1 hch).1]; simp [isTr]
            · have := HI.out.2.2.2 hch; simp [isTr]; omega
          clear HI hbe
          go_wp2
          go_roundw
          case rel => exact ⟨R, ch, rfl, HX⟩
          case measure =>
            have := HM.out
            rw [HWR.out] at this
            exact this
end Go.Proofs.Ytjbjnndmpheedaa
