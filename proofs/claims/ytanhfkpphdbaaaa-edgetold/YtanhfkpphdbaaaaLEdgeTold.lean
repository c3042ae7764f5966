/-
  The walk of EdgeTold: an edge from many to many is told.
-/
import Derived.Test.YtanhfkpphdbaaaaF9
import Derived.Test.YtanhfkpphdbaaaaO4
namespace Go.Proofs.Ytanhfkpphdbaaaa
open Go.RowKit
set_option linter.unusedVariables false

set_option maxRecDepth 8000 in
set_option maxHeartbeats 8000000 in
theorem edgeTold_walk (a : Int) (wa : (Lit.int .i64 a).wf = true) (b : Int) (wb : (Lit.int .i64 b).wf = true) (l : List Pc) (vl : Value) (w : World) (hl : SlOf w 7 RPc vl l) (hp : ∀ p ∈ l, PcF p) :
    Calls Try.prog 7 #[.int .i64 a, .int .i64 b, vl] w fun e w' => e = .returned (.bool true) ∧ Below w.heap.size w w' := by
  obtain ⟨a0, a1⟩ := bounds_i64 wa
  obtain ⟨b0, b1⟩ := bounds_i64 wb
  have HMA := machine_any a b w a0 a1 b0 b1
  have hm0 := machine_bd a
  have hm1 := machine_bd b
  generalize 2 + pickedOf a 9 = m0 at *
  generalize 2 + pickedOf b 9 = m1 at *
  have HM : Hid ((2 ≤ m0 ∧ m0 ≤ 10) ∧ 2 ≤ m1 ∧ m1 ≤ 10) := ⟨hm0, hm1⟩
  have HL : Hid (SlOf w 7 RPc vl l) := hl
  have HP : Hid (∀ p ∈ l, PcOk p ∧ -9223372036854775808 ≤ p.kind ∧ p.kind ≤ 9223372036854775807) := hp
  clear wa wb hl hp hm0 hm1
  go_enter Try.func7, Try.ntmps7
  go_upto_region 2 with (go_at_call 9; refine HMA.mono ?_; rintro e w1 ⟨rfl, hb1⟩)
  obtain ⟨W1, hW1⟩ : ∃ W1, W1 = w1.alloc (.cells #[.int .i64 m0, .int .i64 m1] 25) := ⟨_, rfl⟩
  have r1 : W1.rowIs w1.heap.size 25 2 (fun q => if q = 0 then .int .i64 m0 else .int .i64 m1) := by
    rw [hW1]
    exact World.rowIs_alloc w1 #[.int .i64 m0, .int .i64 m1] 25 _ fun i hi => by
      simp at hi
      match i, hi with | 0, _ => rfl | 1, _ => rfl
  have HB0 : Hid (Below w.heap.size w W1) := by
    show Below _ _ _
    rw [hW1]
    exact hb1.alloc hb1.size _
  rw [← hW1]
  clear hW1 HMA hb1
  obtain ⟨X, hX⟩ : ∃ X, w1.heap.size = X := ⟨_, rfl⟩
  rw [hX] at r1
  rw [hX]
  have f0 : W1.cell? ⟨X, 0, none⟩ = some (.int .i64 m0) := r1.cell (i := 0) (by omega)
  have f1 : W1.cell? ⟨X, 1, none⟩ = some (.int .i64 m1) := r1.cell (i := 1) (by omega)
  have lX := r1.lt
  clear hX r1
  have HFN := ma_func m0 m1 l vl W1 HM.out.1 HM.out.2 (HL.out.below HB0.out fun _ _ h => h) HP.out
  go_wp2_with fail
  refine HFN.mono ?_
  clear HFN
  rintro e w2 ⟨vv, vb, rfl, hv2, hb2, hbw2⟩
  obtain ⟨av, cv, rfl, lv⟩ := hv2.out
  obtain ⟨ab, cb, rfl, lb⟩ := hb2.out
  have HF : Hid (shapeErr (masonM m0 m1 l) m0 m1 = 0) := mason_shape m0 m1 HM.out.1 HM.out.2 l
  have HFIT : Hid (FnFit (masonM m0 m1 l)) := fit_of HF.out
  have HFT : Hid (FnFit (masonM m0 m1 l)) := HFIT
  have HFL0 : Hid (flowE (masonM m0 m1 l) m0 m1 ((masonM m0 m1 l).blocks.length * (masonM m0 m1 l).blocks.length + 1) = 0) := mason_flow m0 m1 HM.out.1 HM.out.2 l
  have HDD0 : Hid ((masonM m0 m1 l).blocks.length + 2 ≤ 16 → ∃ c, c < (masonM m0 m1 l).blocks.length ∧ ((masonM m0 m1 l).blocks.getD c ⟨[], [], []⟩).edges = [] ∧ (∀ j, j < (masonM m0 m1 l).blocks.length → j ≠ c → ((masonM m0 m1 l).blocks.getD j ⟨[], [], []⟩).edges ≠ []) ∧ shapeErr (manyF (masonM m0 m1 l) c) m0 m1 = 0 ∧ flowE (manyF (masonM m0 m1 l) c) m0 m1 ((((masonM m0 m1 l).blocks.length + 2) * ((masonM m0 m1 l).blocks.length + 2)) + 1) = 11) := fun hb => many_told m0 m1 HM.out.1 HM.out.2 l hb _
  generalize hf : masonM m0 m1 l = f at *
  clear hf
  have f0' : w2.cell? ⟨X, 0, none⟩ = some (.int .i64 m0) := (hbw2.cell (p := ⟨X, 0, none⟩) lX).trans f0
  have f1' : w2.cell? ⟨X, 1, none⟩ = some (.int .i64 m1) := (hbw2.cell (p := ⟨X, 1, none⟩) lX).trans f1
  have lX' : X < w2.heap.size := Nat.lt_of_lt_of_le lX hbw2.size
  have HB2 : Hid (Below w.heap.size w w2) := HB0.out.trans (hbw2.mono HB0.out.size)
  have HV2 : Hid (SlOf w2 1 RInt (.slice av f.values.length cv) f.values) := hv2
  have HBL2 : Hid (SlOf w2 3 (RBlk w2) (.slice ab f.blocks.length cb) f.blocks) := hb2
  unfold longest at lv lb
  clear f0 f1 lX HB0 hbw2 hv2 hb2
  generalize hnv : f.values.length = nv at *
  generalize hnb : f.blocks.length = nb at *
  have HNV : Hid (f.values.length = nv) := hnv
  have HNB : Hid (f.blocks.length = nb) := hnb
  clear hnv hnb
  have HFL : Hid (flowE f m0 m1 (nb * nb + 1) = 0) := HFL0
  clear HFL0
  have HDD : Hid (nb + 2 ≤ 16 → ∃ c, c < nb ∧ (f.blocks.getD c ⟨[], [], []⟩).edges = [] ∧ (∀ j, j < nb → j ≠ c → (f.blocks.getD j ⟨[], [], []⟩).edges ≠ []) ∧ shapeErr (manyF f c) m0 m1 = 0 ∧ flowE (manyF f c) m0 m1 ((nb + 2) * (nb + 2) + 1) = 11) := HDD0
  clear HDD0
  obtain ⟨N, hN⟩ : ∃ N, w2.heap.size = N := ⟨_, rfl⟩
  have HOW := own_any f nv nb av ab cv cb w2 HNV.out HNB.out HV2.out HBL2.out HFIT.out
  go_wp2_with fail
  refine HOW.mono ?_
  clear HOW
  rintro e w3 ⟨a1, n1, c1, a2, n2, c2, κ, bx, rfl, hR, hb3⟩
  obtain rfl : n1 = nv := by
    obtain ⟨a, c, hv⟩ := own_out hR.ov
    rw [HNV.out] at hv
    simp only [Value.slice.injEq] at hv
    exact hv.2.1
  obtain rfl : n2 = nb := by
    obtain ⟨a, c, hv⟩ := own_out hR.ob
    rw [HNB.out] at hv
    simp only [Value.slice.injEq] at hv
    exact hv.2.1
  rw [hN] at hR
  obtain ⟨W, hW⟩ : ∃ W, W = w3.alloc (.cells #[.slice a1 n1 c1, .slice a2 n2 c2] 32) := ⟨_, rfl⟩
  obtain ⟨Y, hY⟩ : ∃ Y, w3.heap.size = Y := ⟨_, rfl⟩
  have rY : W.rowIs Y 32 2 (fun q => if q = 0 then .slice a1 n1 c1 else .slice a2 n2 c2) := by
    rw [hW, ← hY]
    exact World.rowIs_alloc _ _ _ _ fun i hi => by
      simp at hi
      match i, hi with | 0, _ => rfl | 1, _ => rfl
  have hRY : OwR N (upK κ Y 5) W f (.slice a1 n1 c1) (.slice a2 n2 c2) bx := by
    rw [hW, ← hY]
    exact hR.box _
  have hbW : Below N w2 W := by
    rw [hW, ← hN]
    exact hb3.alloc hb3.size _
  have hYN : N ≤ Y := by rw [← hN, ← hY]; exact hb3.size
  have lXN : X < N := by rw [← hN]; exact lX'
  have HR : Hid (OwR N (upK κ Y 5) W f (.slice a1 n1 c1) (.slice a2 n2 c2) bx) := hRY
  have HRY : Hid (W.rowIs Y 32 2 (fun q => if q = 0 then .slice a1 n1 c1 else .slice a2 n2 c2)) := rY
  have HBW : Hid (Below N w2 W) := hbW
  have HY : Hid (w3.heap.size = Y) := hY
  have HN : Hid (w2.heap.size = N) := hN
  have HW : Hid (W = w3.alloc (.cells #[.slice a1 n1 c1, .slice a2 n2 c2] 32)) := hW
  have HYN : Hid (N ≤ Y) := hYN
  have f0 : W.cell? ⟨X, 0, none⟩ = some (.int .i64 m0) := (hbW.cell (p := ⟨X, 0, none⟩) lXN).trans f0'
  have f1 : W.cell? ⟨X, 1, none⟩ = some (.int .i64 m1) := (hbW.cell (p := ⟨X, 1, none⟩) lXN).trans f1'
  have g0 : W.cell? ⟨Y, 0, none⟩ = some (.slice a1 n1 c1) := rY.cell (i := 0) (by omega)
  have g1 : W.cell? ⟨Y, 1, none⟩ = some (.slice a2 n2 c2) := rY.cell (i := 1) (by omega)
  have gz := rY.frozen 1
  have f00 := f0'
  have f01 := f1'
  clear hR hb3 hW hY rY hRY hbW hYN hN f0' f1' lX' HV2 HBL2 HFIT
  go_upto_region 3 with fail
  rw [← HW.out, HY.out]
  clear HW HY
  have bnb : n2 ≤ 16 := by rw [← HNB.out]; exact (shape_in HF.out).nb
  have pnb : 0 < n2 := by rw [← HNB.out]; exact (shape_in HF.out).pos
  have hbW : Below w.heap.size w W := HB2.out.trans (HBW.out.mono (by rw [← HN.out]; exact HB2.out.size))
  have HB5 : Hid (Below w.heap.size w W) := hbW
  clear hbW
  by_cases hbig : 16 < n2 + 2
  · have q1 : (16 : Int) < (n2 : Int) + 2 := by omega
    have q2 : decide ((16 : Int) < (n2 : Int) + 2) = true := by simp; omega
    have hrd := HR.out.reads (by rw [HNV.out]; unfold longest; omega) (by rw [HNB.out]; unfold longest; omega) (fun b hb => by have := HFT.out.blk b hb; unfold longest; omega)
    have HC := flowCheck_is f (n2 * n2 + 1) n1 n2 m0 m1 a1 a2 c1 c2 0 HFL.out HNV.out HNB.out W hrd.1 hrd.2 (fun h => by have := flowIn_all h; rw [HNB.out] at this; exact this)
    clear hrd hbig
    go_wp2_with fail
    refine HC.mono ?_
    clear HC
    rintro e w6 ⟨rfl, hb6⟩
    have HE : Hid (Below w.heap.size w w6) := HB5.out.trans (hb6.mono HB5.out.size)
    clear hb6
    go_wp2
    go_ret
    exact ⟨rfl, HE.out⟩
  · have q1 : ¬ (16 : Int) < (n2 : Int) + 2 := by omega
    have q2 : decide ((16 : Int) < (n2 : Int) + 2) = false := by simp; omega
    obtain ⟨c, hc, hce, hcn, hsh, hfe⟩ := HDD.out (by omega)
    have HCE : Hid ((f.blocks.getD c ⟨[], [], []⟩).edges = [] ∧ (∀ j, j < n2 → j ≠ c → (f.blocks.getD j ⟨[], [], []⟩).edges ≠ []) ∧ shapeErr (manyF f c) m0 m1 = 0 ∧ flowE (manyF f c) m0 m1 ((n2 + 2) * (n2 + 2) + 1) = 11) := ⟨hce, hcn, hsh, hfe⟩
    have hob : W.ownsRow N 45 3 (.slice a2 n2 c2) n2 ((List.range n2).flatMap fun j => c3 (bx j)) := by
      have h := HR.out.ob
      rw [HNB.out] at h
      exact h
    obtain ⟨gb, cb2, hvb, hgN, hgl⟩ := hob.form pnb
    simp only [Value.slice.injEq] at hvb
    obtain ⟨rfl, _, rfl⟩ := hvb
    have HOB : Hid (W.ownsRow N 45 3 (.slice (some ⟨gb, 0, none⟩) n2 c2) n2 ((List.range n2).flatMap fun j => c3 (bx j))) := hob
    clear hce hcn hsh hfe hbig hob HDD
    go_wp2_with fail
    go_loopw [31, 9] (fun x v wr => ∃ k : Nat, k ≤ n2 ∧ x = .int .i64 k ∧ v = .int .i64 (if c < k then (c : Int) else -1) ∧ wr = W) (fun x _ _ => n2 - (intOf x).toNat)
    case atStart => exact ⟨0, Nat.zero_le _, rfl, by simp, rfl⟩
    case round =>
      obtain ⟨k, hk, rfl, rfl, rfl⟩ := hrel
      by_cases hlt : k < n2
      · have hkb : k < f.blocks.length := by rw [HNB.out]; exact hlt
        obtain ⟨M, m1', m2, _⟩ := (HR.out.blk k hkb).edg
        obtain ⟨ae, ce, hve⟩ := own_out m2
        have hcell : wr.cell? ⟨gb, k * 3 + 2, none⟩ = some (bx k).2.2 := by
          refine (own_cell HOB.out (k * 3 + 2) _ ?_).1
          rw [flat_at (fun j => c3 (bx j)) 3 (fun _ => rfl) (List.range n2) k 2 (by simpa using hlt) (by omega)]
          simp [c3]
        rw [hve] at hcell
        have hml : M.length = 0 ↔ k = c := by
          have e1 : M.length = f.blocks[k].edges.length := by rw [← m1']; simp
          have e2 : f.blocks.getD k ⟨[], [], []⟩ = f.blocks[k] := by rw [List.getD_eq_getElem?_getD, List.getElem?_eq_getElem hkb]; rfl
          constructor
          · intro h0
            apply Classical.byContradiction
            intro hne
            have := HCE.out.2.1 k hlt hne
            rw [e2] at this
            exact this (List.length_eq_zero_iff.1 (by omega))
          · intro h0
            have := HCE.out.1
            rw [← h0, e2] at this
            rw [e1, this]
            rfl
        clear m1' m2 hve
        generalize M.length = nm at *
        by_cases hkc : k = c
        · have q5 : nm = 0 := hml.2 hkc
          subst q5
          have HL : Hid ((k : Int) = if c < k + 1 then (c : Int) else -1) := by show _ = _; rw [if_pos (by omega), hkc]
          clear hml hkc
          go_wp2
          go_roundw
          case rel => exact ⟨k + 1, by omega, by go_num, by rw [← HL.out], by first | rfl | trivial⟩
          case measure => simp [intOf]; omega
        · have q5 : ((nm : Int) == 0) = false := by
            have : nm ≠ 0 := fun h => hkc (hml.1 h)
            simp
            omega
          have q6 : ¬ (nm : Int) = 0 := by
            have : nm ≠ 0 := fun h => hkc (hml.1 h)
            omega
          have HL : Hid ((if c < k then (c : Int) else -1) = if c < k + 1 then (c : Int) else -1) := by
            show _ = _
            by_cases h1 : c < k
            · rw [if_pos h1, if_pos (by omega)]
            · rw [if_neg h1, if_neg (by omega)]
          clear hml hkc
          generalize (if c < k then (c : Int) else -1) = lastv at *
          go_wp2
          go_roundw
          case rel => exact ⟨k + 1, by omega, by go_num, by rw [← HL.out], by first | rfl | trivial⟩
          case measure => simp [intOf]; omega
      · obtain rfl : k = n2 := by omega
        rw [if_pos hc]
        clear hlt hk
        obtain ⟨iB, hiB, ziB, siB, biB⟩ := info_parts infoMB
        obtain ⟨W, rfl⟩ : ∃ W : World, W = wr := ⟨_, rfl⟩
        obtain ⟨E, hE⟩ : ∃ E, W.heap.size = E := ⟨_, rfl⟩
        have HE0 : Hid (W.heap.size = E) := hE
        have lY := HRY.out.lt
        have hRE := HR.out.boxr (.cells #[.int .i64 ((k : Int) + 1), .slice none 0 0] 54) (7 + 2 * k)
        rw [hE] at hRE
        have eown := own_new W N 54 2 1 #[.int .i64 ((k : Int) + 1), .slice none 0 0] HR.out.szN rfl (by unfold maxLen; omega)
        rw [hE] at eown
        obtain ⟨W1e, hW1e⟩ : ∃ W1e, W1e = W.alloc (.cells #[.int .i64 ((k : Int) + 1), .slice none 0 0] 54) := ⟨_, rfl⟩
        rw [← hW1e] at hRE eown
        have hz1 : W1e.heap.size = E + 1 := by rw [hW1e]; simp; omega
        have hwe : Below W.heap.size W W1e := by rw [hW1e]; exact (Below.refl _ _).alloc (Nat.le_refl _) _
        have oA1 : W1e.ownsRow N 45 3 (.slice (some ⟨gb, 0, none⟩) k c2) k ((List.range k).flatMap fun j => c3 (bx j)) := own_keep HOB.out fun g _ _ hg => hwe.block g hg
        have oA := oA1.alloc (.cells #[.slice none 0 0, .slice none 0 0, .slice (some ⟨E, 0, none⟩) 1 1, .slice none 0 0, .slice none 0 0, .slice none 0 0] 45)
        have hNs : N ≤ W1e.heap.size + 1 := by have := hRE.szN; omega
        have HRE : Hid (OwR N (upK (upK κ Y 5) E (7 + 2 * k)) W1e f (.slice a1 n1 c1) (.slice (some ⟨gb, 0, none⟩) k c2) bx) := hRE
        have HEO : Hid (W1e.ownsRow N 54 2 (.slice (some ⟨E, 0, none⟩) 1 1) 1 [.int .i64 ((k : Int) + 1), .slice none 0 0]) := eown
        have HZ1 : Hid (W1e.heap.size = E + 1) := hz1
        have HWE : Hid (Below W.heap.size W W1e) := hwe
        have HW1 : Hid (W1e = W.alloc (.cells #[.int .i64 ((k : Int) + 1), .slice none 0 0] 54)) := hW1e
        have w1y : W1e.cell? ⟨Y, 1, none⟩ = some (.slice (some ⟨gb, 0, none⟩) k c2) := (hwe.cell (p := ⟨Y, 1, none⟩) lY).trans g1
        clear hE hRE eown hW1e hwe oA1 hz1
        have oA' : ((W.alloc (.cells #[.int .i64 ((k : Int) + 1), .slice none 0 0] 54)).alloc (.cells #[.slice none 0 0, .slice none 0 0, .slice (some ⟨W.heap.size, 0, none⟩) 1 1, .slice none 0 0, .slice none 0 0, .slice none 0 0] 45)).ownsRow N 45 3 (.slice (some ⟨gb, 0, none⟩) k c2) k ((List.range k).flatMap fun j => c3 (bx j)) := by
          rw [← HW1.out, HE0.out]
          exact oA
        have hNs2 : N ≤ W.heap.size + 1 + 1 := by have := HZ1.out; have := HE0.out; omega
        have hnewsB : ∀ j u, ([.slice none 0 0, .slice none 0 0, .slice (some ⟨W.heap.size, 0, none⟩) 1 1, .slice none 0 0, .slice none 0 0, .slice none 0 0] : List Value)[j]? = some u → ((W.alloc (.cells #[.int .i64 ((k : Int) + 1), .slice none 0 0] 54)).alloc (.cells #[.slice none 0 0, .slice none 0 0, .slice (some ⟨W.heap.size, 0, none⟩) 1 1, .slice none 0 0, .slice none 0 0, .slice none 0 0] 45)).cell? ((⟨W.heap.size + 1, 0, none⟩ : Addr).add j) = some u := fun j u hu => by
          have h := newsG (w := W.alloc (.cells #[.int .i64 ((k : Int) + 1), .slice none 0 0] 54)) (ob := .cells #[.slice none 0 0, .slice none 0 0, .slice (some ⟨W.heap.size, 0, none⟩) 1 1, .slice none 0 0, .slice none 0 0, .slice none 0 0] 45) (cs := #[.slice none 0 0, .slice none 0 0, .slice (some ⟨W.heap.size, 0, none⟩) 1 1, .slice none 0 0, .slice none 0 0, .slice none 0 0]) (t := 45) rfl j u hu
          have e : (W.alloc (.cells #[.int .i64 ((k : Int) + 1), .slice none 0 0] 54)).heap.size = W.heap.size + 1 := by simp
          rw [e] at h
          exact h
        have HNB2 : Hid (∀ j u, ([.slice none 0 0, .slice none 0 0, .slice (some ⟨W.heap.size, 0, none⟩) 1 1, .slice none 0 0, .slice none 0 0, .slice none 0 0] : List Value)[j]? = some u → ((W.alloc (.cells #[.int .i64 ((k : Int) + 1), .slice none 0 0] 54)).alloc (.cells #[.slice none 0 0, .slice none 0 0, .slice (some ⟨W.heap.size, 0, none⟩) 1 1, .slice none 0 0, .slice none 0 0, .slice none 0 0] 45)).cell? ((⟨W.heap.size + 1, 0, none⟩ : Addr).add j) = some u) := hnewsB
        have HOA : Hid (((W.alloc (.cells #[.int .i64 ((k : Int) + 1), .slice none 0 0] 54)).alloc (.cells #[.slice none 0 0, .slice none 0 0, .slice (some ⟨W.heap.size, 0, none⟩) 1 1, .slice none 0 0, .slice none 0 0, .slice none 0 0] 45)).ownsRow N 45 3 (.slice (some ⟨gb, 0, none⟩) k c2) k ((List.range k).flatMap fun j => c3 (bx j))) := oA'
        have hone : ∀ u ∈ ([.slice none 0 0, .slice none 0 0, .slice (some ⟨W.heap.size, 0, none⟩) 1 1, .slice none 0 0, .slice none 0 0, .slice none 0 0] : List Value), u.oneCell' = true := fun u hu => by
          simp at hu
          rcases hu with rfl | rfl | rfl <;> rfl
        have HONE : Hid (∀ u ∈ ([.slice none 0 0, .slice none 0 0, .slice (some ⟨W.heap.size, 0, none⟩) 1 1, .slice none 0 0, .slice none 0 0, .slice none 0 0] : List Value), u.oneCell' = true) := hone
        clear oA oA' hnewsB w1y hone
        go_upto_region 13 with fail
        go_wp2_with (at_builtin; go_must (refine wpList_append_lies _ rfl _ _ 30 rfl N 45 iB _ 3 72 Try.underlying30 hiB ziB siB biB rfl (by omega) (.slice (some ⟨gb, 0, none⟩) k c2) k _ (by rfl) HOA.out ⟨W.heap.size + 1, 0, none⟩ 2 2 [.slice none 0 0, .slice none 0 0, .slice (some ⟨W.heap.size, 0, none⟩) 1 1, .slice none 0 0, .slice none 0 0, .slice none 0 0] (by rfl) (by rfl) HNB2.out HONE.out (by omega) ?g3 ?g4 ?g5 (W.heap.size + 1 + 1) ?g6 ?_))
        rotate_left
        any_goals (first | rfl | (unfold maxLen; omega) | omega | (simp; omega) | (simp; rfl) | (simp; done))
        intro g cap wb hown hgrow hat hgl
        clear HOA HNB2 HONE
        have hE0 := HE0.out
        have hz1 := HZ1.out
        rw [← HW1.out, hE0] at hgrow
        rw [hE0] at hown
        have hwa : Below W1e.heap.size W1e (W1e.alloc (.cells #[.slice none 0 0, .slice none 0 0, .slice (some ⟨E, 0, none⟩) 1 1, .slice none 0 0, .slice none 0 0, .slice none 0 0] 45)) := (Below.refl _ _).alloc (Nat.le_refl _) _
        have hP := HRE.out.push2 hwa hgrow ⟨[], [], [⟨((k + 1 : Nat) : Int), []⟩]⟩ ⟨[], [], []⟩ (.slice none 0 0, .slice none 0 0, .slice (some ⟨E, 0, none⟩) 1 1) (.slice none 0 0, .slice none 0 0, .slice none 0 0)
          (by
            rw [HNB.out]
            refine ⟨SlK.nil _ _ _ _, ⟨[], rfl, World.ownsRow_nil _ _ _ _, by simp⟩, fun g hg => by simp [Value.ownBlock] at hg, ⟨[(⟨((k + 1 : Nat) : Int), []⟩, .slice none 0 0)], rfl, ?_, fun p hp => ?_⟩, fun g hg => ?_⟩
            · exact HEO.out.alloc _
            · rw [List.mem_singleton.1 hp]
              exact SlK.nil _ _ _ _
            · simp [Value.ownBlock] at hg
              rw [← hg]
              simp [upK]) (blkS_bare _) (by rw [HNB.out]; exact hown) (by
            rcases hat with h | h
            · exact Or.inl h
            · right; simp; omega)
        rw [HNB.out] at hP
        have hYE : Y ≠ E := by omega
        have lY1 : Y < W1e.heap.size := by omega
        have kY1 : upK (upK κ Y 5) E (7 + 2 * k) Y = 5 := by
          unfold upK
          rw [if_neg hYE, if_pos rfl]
        have hYb : wb.heap[Y]? = W.heap[Y]? := (hP.2.block Y lY1 (by rw [kY1]; omega)).trans (HWE.out.block Y lY)
        have kY2 : upK (upK (upK κ Y 5) E (7 + 2 * k)) g 4 Y = 5 := by rw [hP.2.role Y lY1]; exact kY1
        obtain ⟨W6, hW6⟩ : ∃ W6, W6 = wb.setCell ⟨Y, 1, none⟩ (.slice (some ⟨g, 0, none⟩) (k + 2) cap) := ⟨_, rfl⟩
        have hR6 := hP.1.set kY2 1 (.slice (some ⟨g, 0, none⟩) (k + 2) cap)
        rw [← hW6] at hR6
        have rY6 : W6.rowIs Y 32 2 (fun q => if q = 0 then .slice a1 n1 c1 else .slice (some ⟨g, 0, none⟩) (k + 2) cap) := by
          rw [hW6]
          exact ((HRY.out.of_block hYb).set 1 _).congr fun q hq => by match q, hq with | 0, _ => rfl | 1, _ => rfl
        have hbN6 : Below N w2 W6 := by
          have hlow : Below N W1e wb := hP.2.below HRE.out.szN fun b hb => by rw [HRE.out.lowN b hb]; omega
          rw [hW6]
          exact ((HBW.out.trans (HWE.out.mono HR.out.szN)).trans hlow).setCell HYN.out _
        have o1' : wb.cell? ⟨Y, 1, none⟩ = some (.slice (some ⟨gb, 0, none⟩) k c2) := (World.cell?_of_block (w := W) (a := ⟨Y, 1, none⟩) hYb).trans g1
        have oz' : wb.frozen? ⟨Y, 1, none⟩ = false := (World.frozen?_of_block (w := W) (a := ⟨Y, 1, none⟩) hYb).trans gz
        have gk : upK (upK (upK κ Y 5) E (7 + 2 * k)) g 4 g = 4 := by simp [upK]
        have hgY : g ≠ Y := fun e => by
          have : upK (upK (upK κ Y 5) E (7 + 2 * k)) g 4 Y = 4 := by
            show (if Y = g then 4 else _) = 4
            rw [if_pos e.symm]
          omega
        -- the edges of block c
        obtain ⟨E2, hE2⟩ : ∃ E2, W6.heap.size = E2 := ⟨_, rfl⟩
        have hR7 := hR6.boxr (.cells #[.int .i64 (k : Int), .slice none 0 0, .int .i64 ((k : Int) + 1), .slice none 0 0] 54) (7 + 2 * c)
        have eo7 := own_new W6 N 54 2 2 #[.int .i64 (k : Int), .slice none 0 0, .int .i64 ((k : Int) + 1), .slice none 0 0] hR6.szN rfl (by unfold maxLen; omega)
        obtain ⟨W7, hW7⟩ : ∃ W7, W7 = W6.alloc (.cells #[.int .i64 (k : Int), .slice none 0 0, .int .i64 ((k : Int) + 1), .slice none 0 0] 54) := ⟨_, rfl⟩
        rw [← hW7, hE2] at hR7 eo7
        have hl2 : (f.blocks ++ ([⟨[], [], [⟨((k + 1 : Nat) : Int), []⟩]⟩, ⟨[], [], []⟩] : List Blk)).length = k + 2 := by simp [HNB.out]
        have hc7 : c < (f.blocks ++ ([⟨[], [], [⟨((k + 1 : Nat) : Int), []⟩]⟩, ⟨[], [], []⟩] : List Blk)).length := by rw [hl2]; omega
        have hlt6 : Below W6.heap.size W6 W7 := by rw [hW7]; exact (Below.refl _ _).alloc (Nat.le_refl _) _
        have hR7' : OwR N (upK (upK (upK (upK κ Y 5) E (7 + 2 * k)) g 4) E2 (7 + 2 * c)) W7 ⟨f.values, f.blocks ++ ([⟨[], [], [⟨((k + 1 : Nat) : Int), []⟩]⟩, ⟨[], [], []⟩] : List Blk)⟩ (.slice a1 n1 c1) (.slice (some ⟨g, 0, none⟩) (f.blocks ++ ([⟨[], [], [⟨((k + 1 : Nat) : Int), []⟩]⟩, ⟨[], [], []⟩] : List Blk)).length cap) (fun j => if j = k then (.slice none 0 0, .slice none 0 0, .slice (some ⟨E, 0, none⟩) 1 1) else if j = k + 1 then (.slice none 0 0, .slice none 0 0, .slice none 0 0) else bx j) := by
          rw [hl2]
          exact hR7
        have hR8 := hR7'.setE hc7 (.slice (some ⟨E2, 0, none⟩) 2 2) [⟨((k : Nat) : Int), []⟩, ⟨((k + 1 : Nat) : Int), []⟩] [(⟨((k : Nat) : Int), []⟩, .slice none 0 0), (⟨((k + 1 : Nat) : Int), []⟩, .slice none 0 0)] rfl eo7 (fun p hp => by
          simp at hp
          rcases hp with rfl | rfl <;> exact SlK.nil _ _ _ _) (fun g' hg' => by
          simp [Value.ownBlock] at hg'
          rw [← hg']
          simp [upK])
        have hcb : c < f.blocks.length := by rw [HNB.out]; exact hc
        have hmF : (⟨f.values, (f.blocks ++ ([⟨[], [], [⟨((k + 1 : Nat) : Int), []⟩]⟩, ⟨[], [], []⟩] : List Blk)).set c ⟨(f.blocks ++ ([⟨[], [], [⟨((k + 1 : Nat) : Int), []⟩]⟩, ⟨[], [], []⟩] : List Blk))[c].params, (f.blocks ++ ([⟨[], [], [⟨((k + 1 : Nat) : Int), []⟩]⟩, ⟨[], [], []⟩] : List Blk))[c].instrs, [⟨((k : Nat) : Int), []⟩, ⟨((k + 1 : Nat) : Int), []⟩]⟩⟩ : Fn) = manyF f c := by
          unfold manyF
          rw [HNB.out, List.getElem_append_left hcb, List.getD_eq_getElem?_getD, List.getElem?_eq_getElem hcb]
          rfl
        try simp only at hR8
        rw [hmF, hl2] at hR8
        obtain ⟨vold, hold, hoz⟩ : ∃ u, W7.cell? ⟨g, c * 3 + 2, none⟩ = some u ∧ W7.frozen? ⟨g, c * 3 + 2, none⟩ = false := by
          have h := hR7'.ob
          rw [hl2] at h
          exact ⟨_, own_cell h (c * 3 + 2) _ (List.getElem?_eq_getElem (by rw [flat_length _ 3 (fun _ => rfl)]; simp; omega))⟩
        obtain ⟨W8, hW8⟩ : ∃ W8, W8 = W7.setCell ⟨g, c * 3 + 2, none⟩ (.slice (some ⟨E2, 0, none⟩) 2 2) := ⟨_, rfl⟩
        rw [← hW8] at hR8
        have rY7 := rY6.of_block (hlt6.block Y rY6.lt)
        have rY8 : W8.rowIs Y 32 2 (fun q => if q = 0 then .slice a1 n1 c1 else .slice (some ⟨g, 0, none⟩) (k + 2) cap) := by
          rw [hW8]
          exact rY7.setOther (fun e => hgY e.symm) _
        have hgN : N ≤ g := (own_base hP.1.ob (g := g) rfl).1
        have hbN8 : Below N w2 W8 := by
          rw [hW8]
          exact (hbN6.trans (hlt6.mono hR6.szN)).setCell hgN _
        have hbw8 : Below w.heap.size w W8 := HB2.out.trans (hbN8.mono (by rw [← HN.out]; exact HB2.out.size))
        have hrd8 := hR8.reads (by show f.values.length ≤ _; rw [HNV.out]; unfold longest; omega) (by rw [show (manyF f c).blocks.length = k + 2 by unfold manyF; simp [HNB.out]]; unfold longest; omega) (fun b hb => by
          have S := fit_of HCE.out.2.2.1
          have := S.blk b hb
          unfold longest
          omega)
        have y6 : W6.cell? ⟨Y, 1, none⟩ = some (.slice (some ⟨g, 0, none⟩) (k + 2) cap) := rY6.cell (i := 1) (by omega)
        have y80 : W8.cell? ⟨Y, 0, none⟩ = some (.slice a1 n1 c1) := rY8.cell (i := 0) (by omega)
        have y81 : W8.cell? ⟨Y, 1, none⟩ = some (.slice (some ⟨g, 0, none⟩) (k + 2) cap) := rY8.cell (i := 1) (by omega)
        have x80 : W8.cell? ⟨X, 0, none⟩ = some (.int .i64 m0) := (hbN8.cell (p := ⟨X, 0, none⟩) lXN).trans f00
        have x81 : W8.cell? ⟨X, 1, none⟩ = some (.int .i64 m1) := (hbN8.cell (p := ⟨X, 1, none⟩) lXN).trans f01
        have HC := flowCheck_is (manyF f c) ((k + 2) * (k + 2) + 1) n1 (k + 2) m0 m1 a1 (some ⟨g, 0, none⟩) c1 cap 11 HCE.out.2.2.2 HNV.out (by unfold manyF; simp [HNB.out]) W8 hrd8.1 hrd8.2 (fun h => by
          have := flowIn_all h
          rw [show (manyF f c).blocks.length = k + 2 by unfold manyF; simp [HNB.out]] at this
          exact this)
        have HB8 : Hid (Below w.heap.size w W8) := hbw8
        have HW6 : Hid (W6 = wb.setCell ⟨Y, 1, none⟩ (.slice (some ⟨g, 0, none⟩) (k + 2) cap)) := hW6
        have HW7 : Hid (W7 = W6.alloc (.cells #[.int .i64 (k : Int), .slice none 0 0, .int .i64 ((k : Int) + 1), .slice none 0 0] 54)) := hW7
        have HW8 : Hid (W8 = W7.setCell ⟨g, c * 3 + 2, none⟩ (.slice (some ⟨E2, 0, none⟩) 2 2)) := hW8
        have HE2 : Hid (W6.heap.size = E2) := hE2
        have hgl6 : g < W6.heap.size := by rw [hW6]; simpa [World.setCell] using hgl
        have hold6 : W6.cell? ⟨g, c * 3 + 2, none⟩ = some vold := by rw [← hlt6.cell (p := ⟨g, c * 3 + 2, none⟩) hgl6]; exact hold
        have hoz6 : W6.frozen? ⟨g, c * 3 + 2, none⟩ = false := by rw [← hlt6.frozen (p := ⟨g, c * 3 + 2, none⟩) hgl6]; exact hoz
        clear hown hgrow hat hgl hwa hP hYE lY1 kY1 hYb kY2 hW6 hR6 rY6 hbN6 gk hE2 hR7 eo7 hW7 hl2 hc7 hlt6 hR7' hR8 hcb hmF hW8 rY7 rY8 hgN hbN8 hbw8 hrd8 hE0 hz1 HRE HEO HZ1 HWE HW1 HE0 HCE HOB
        go_upto_region 14 with fail
        rw [← HW6.out]
        clear HW6 o1' oz'
        go_upto_region 15 with fail
        have HEQ : Hid ((W6.setCell ⟨g, c * 3 + 2, none⟩ (.slice (some ⟨W6.heap.size, 0, none⟩) 2 2)).alloc (.cells #[.int .i64 (k : Int), .slice none 0 0, .int .i64 ((k : Int) + 1), .slice none 0 0] 54) = W8) := by
          show _ = _
          rw [HW8.out, HW7.out, ← HE2.out]
          exact (World.setCell_alloc_past (w := W6) _ g (c * 3 + 2) _ hgl6).symm
        rw [HEQ.out]
        clear HEQ HW8 HW7 HE2 hold6 hoz6 y6 hold hoz
        go_wp2_with fail
        refine HC.mono ?_
        clear HC
        rintro e w9 ⟨rfl, hb9⟩
        have HE9 : Hid (Below w.heap.size w w9) := HB8.out.trans (hb9.mono HB8.out.size)
        clear hb9
        go_wp2
        go_ret
        exact ⟨rfl, HE9.out⟩

end Go.Proofs.Ytanhfkpphdbaaaa
