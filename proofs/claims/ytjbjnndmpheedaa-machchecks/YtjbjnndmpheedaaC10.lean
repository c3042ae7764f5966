/-
  The contract of the reference's 'FuncFault' (P2.1 to P2.4): it answers what flow.Check does.
-/
import Derived.Test.YtjbjnndmpheedaaC9
import Derived.Test.YtjbjnndmpheedaaC5
import Derived.Deep.DeepCutAuto
import Derived.Deep.CutBlock
namespace Go.Proofs.Ytjbjnndmpheedaa
open Go.RowKit
set_option linter.unusedVariables false

theorem blkOk_at {L : List (Int × Spot)} {idom : Nat → Int} {n : Nat} {bs : List Blk} {b : Nat} (hb : b < bs.length) : blkOk L idom n bs b = ((List.range bs[b].instrs.length).all (insOk L idom n b bs[b].instrs) && bs[b].edges.all (edgOk L idom n b bs[b].instrs.length)) := by
  unfold blkOk
  simp [List.getD, hb]
theorem insOk_at {L : List (Int × Spot)} {idom : Nat → Int} {n b i : Nat} {is : List Ins} (hi : i < is.length) : insOk L idom n b is i = is[i].operands.all (useOk L idom n b i) := by
  unfold insOk
  simp [List.getD, hi]
theorem madeL_blk {L : List (Int × Spot)} {idom : Nat → Int} {bs : List Blk} (h : madeL L idom bs = true) {b : Nat} (hb : b < bs.length) : blkOk L idom bs.length bs b = true := List.all_eq_true.1 h b (List.mem_range.2 hb)
theorem use_bad {L : List (Int × Spot)} {idom : Nat → Int} {bs : List Blk} {b i : Nat} (hb : b < bs.length) (hi : i < bs[b].instrs.length) {o : Opr} (ho : o ∈ bs[b].instrs[i].operands) (h : useOk L idom bs.length b i o = false) : madeL L idom bs = false := by
  cases hm : madeL L idom bs
  · rfl
  · have h1 := madeL_blk hm hb
    rw [blkOk_at hb, Bool.and_eq_true] at h1
    have h2 := List.all_eq_true.1 h1.1 i (List.mem_range.2 hi)
    rw [insOk_at hi] at h2
    have h3 := List.all_eq_true.1 h2 o ho
    rw [h] at h3
    cases h3
theorem arg_bad {L : List (Int × Spot)} {idom : Nat → Int} {bs : List Blk} {b : Nat} (hb : b < bs.length) {e : Edg} (he : e ∈ bs[b].edges) {v : Int} (hv : v ∈ e.args) (h : argOk L idom bs.length b bs[b].instrs.length v = false) : madeL L idom bs = false := by
  cases hm : madeL L idom bs
  · rfl
  · have h1 := madeL_blk hm hb
    rw [blkOk_at hb, Bool.and_eq_true] at h1
    have h2 := List.all_eq_true.1 h1.2 e he
    have h3 := List.all_eq_true.1 h2 v hv
    rw [h] at h3
    cases h3
theorem all_take {α : Type} {p : α → Bool} {l : List α} {k : Nat} (hk : k < l.length) (h : (l.take k).all p = true) (h2 : p l[k] = true) : (l.take (k + 1)).all p = true := allF_snoc p l k hk h h2
theorem flowE_of {f : Fn} {m0 m1 : Int} {K : Nat} (h0 : shapeErr f m0 m1 = 0) : flowE f m0 m1 K = if (orderM f.blocks).length < f.blocks.length then 16 else if manyL (predsL f.blocks) f.blocks = true then 11 else if madeL (spU f.blocks f.blocks.length) (idomF f K) f.blocks = true then 0 else 10 := by
  unfold flowE
  rw [if_neg (by simp [h0])]
/-- What leads from many, edge by edge. -/
def edgeM2 (preds : List (List Int)) (n : Nat) (e : Edg) : Bool := decide (1 < n) && edgeMany preds e
theorem blkMany_of {preds : List (List Int)} {b : Blk} : blkMany preds b = b.edges.any (edgeM2 preds b.edges.length) := by
  unfold blkMany edgeM2
  by_cases h : 1 < b.edges.length
  · rw [decide_eq_true (show 2 ≤ b.edges.length by omega), decide_eq_true h]
    simp
  · rw [decide_eq_false (show ¬ 2 ≤ b.edges.length by omega), decide_eq_false h]
    simp
theorem made_fits {f : Fn} {m0 m1 : Int} (h : shapeErr f m0 m1 = 0) (hall : ∀ b, b < f.blocks.length → ReachW (succM f.blocks) (-1) b) :
    f.blocks.length ≤ (orderM f.blocks).length := (order_full f.blocks (shape_in h).pos (flowIn_all h).suc).2 fun b hb => reachW_all.1 (hall b hb)

set_option maxHeartbeats 1000000 in
theorem made_call (f : Fn) (n nv : Nat) (m0 m1 : Int) (hnb : f.blocks.length = n) (hnv : f.values.length = nv) (h0 : shapeErr f m0 m1 = 0) (hlen : f.blocks.length ≤ (orderM f.blocks).length) (v : Int) (hv : isValueB nv v = true) (block pos : Nat) (hb : block < n) (r : Bool) (hr : aheadM (idomF f (n * n + 1)) n (spotOf (spU f.blocks n) v.toNat) ((block : Int), (pos : Int)) = r) (av ab : Option Addr) (cv cb : Nat) (w : World) (hs : SlOf w 3 (RBlk w) (.slice ab n cb) f.blocks) :
    Calls Try.prog 40 #[.agg #[.slice av nv cv, .slice ab n cb], .int .i64 v, .int .i64 block, .int .i64 pos] w fun e w' => e = .returned (.bool r) ∧ Below w.heap.size w w' := by
  subst hnb hnv
  have hsi := shape_in h0
  have hfi := flowIn_all h0
  obtain ⟨sp, hsp⟩ := made_some hsi hv
  have hv0 := (isValue_bd hv).1
  have hnd := (marks_free _ _ _ hsi.mks).2
  have hsp0 : 0 ≤ sp.1 := by
    obtain ⟨b, _, e⟩ := spU_mem hsp
    rw [e]; omega
  rw [spot_is hnd hv0 hsp] at hr
  have hiff := ahead_iff (i := pos) hsi.pos hfi.suc hlen (Nat.succ_pos _) (hfi.gr hlen).2 hsp0 hb
  refine rMade_is f.blocks f.blocks.length f.values.length v block pos sp r ?_ hsp (fun s hs => ?_) av ab cv cb w rfl hs hfi.rng hb hfi.nb
  · rw [← hr]
    exact hiff
  · rw [← spot_is hnd hv0 hs]
    exact spot_is hnd hv0 hsp

set_option maxRecDepth 8000 in
set_option maxHeartbeats 16000000 in
theorem funcFault_is (f : Fn) (n nv : Nat) (av ab : Option Addr) (cv cb : Nat) (m0 m1 : Int) (r : Int) (hr : flowE f m0 m1 (n * n + 1) = r) (w : World) (hnb : f.blocks.length = n) (hnv : f.values.length = nv) (hv : SlOf w 1 RInt (.slice av nv cv) f.values) (hs : SlOf w 3 (RBlk w) (.slice ab n cb) f.blocks) :
    Calls Try.prog 21 #[.agg #[.slice av nv cv, .slice ab n cb], .agg #[.int .i64 m0, .int .i64 m1]] w fun e w' => e = .returned (.int .i64 r) ∧ Below w.heap.size w w' := by
  obtain ⟨W, hW⟩ : ∃ W, W = (w.alloc (.cells #[.slice av nv cv, .slice ab n cb] 25)).alloc (.cells #[.int .i64 m0, .int .i64 m1] 28) := ⟨_, rfl⟩
  obtain ⟨N, hN⟩ : ∃ N, w.heap.size = N := ⟨_, rfl⟩
  have hbw : Below w.heap.size w W := by rw [hW]; exact ((Below.refl _ _).alloc (Nat.le_refl _) _).alloc (by simp) _
  have zW : W.heap.size = N + 1 + 1 := by rw [hW, ← hN]; simp
  obtain ⟨t0, t1⟩ := two_at w #[.slice av nv cv, .slice ab n cb] #[.int .i64 m0, .int .i64 m1] 25 28
  have F0 : W.cell? ⟨N, 0, none⟩ = some (.slice av nv cv) := by rw [hW, ← hN]; exact t0 0
  have F1 : W.cell? ⟨N, 1, none⟩ = some (.slice ab n cb) := by rw [hW, ← hN]; exact t0 1
  have e0 : W.cell? ⟨N + 1, 0, none⟩ = some (.int .i64 m0) := by rw [hW, ← hN]; exact t1 0
  have e1 : W.cell? ⟨N + 1, 1, none⟩ = some (.int .i64 m1) := by rw [hW, ← hN]; exact t1 1
  have HF : Hid (∀ w', Below W.heap.size W w' → w'.cell? ⟨N, 0, none⟩ = some (.slice av nv cv) ∧ w'.cell? ⟨N, 1, none⟩ = some (.slice ab n cb) ∧ N + 1 < w'.heap.size) := fun w' hh => ⟨(hh.cell (p := ⟨N, 0, none⟩) (by simp; omega)).trans F0, (hh.cell (p := ⟨N, 1, none⟩) (by simp; omega)).trans F1, by have := hh.size; omega⟩
  have HW : Hid (W = (w.alloc (.cells #[.slice av nv cv, .slice ab n cb] 25)).alloc (.cells #[.int .i64 m0, .int .i64 m1] 28)) := hW
  have HN : Hid (w.heap.size = N) := hN
  have HB : Hid (SlOf W 3 (RBlk W) (.slice ab n cb) f.blocks) := hs.below hbw (RBlk.below hbw)
  have HNB : Hid (f.blocks.length = n) := hnb
  have HNV : Hid (f.values.length = nv) := hnv
  have HBW : Hid (Below w.heap.size w W) := hbw
  have HRES : Hid (flowE f m0 m1 (n * n + 1) = r) := hr
  obtain ⟨er, her⟩ : ∃ er, shapeErr f m0 m1 = er := ⟨_, rfl⟩
  have HER : Hid (shapeErr f m0 m1 = er) := her
  have HC1 := shapeFault_is f av cv ab cb m0 m1 W er her (by rw [hnv]; exact hv.below hbw fun _ _ h => h) (by rw [hnb]; exact hs.below hbw (RBlk.below hbw))
  rw [hnb, hnv] at HC1
  have f0 := F0
  have f1 := F1
  clear hW hN hbw zW t0 t1 F0 F1 hv hs hr her hnb hnv
  go_enter Try.func21, Try.ntmps21
  go_upto_region 1 with fail
  rw [← HW.out, HN.out]
  go_wp2_with fail
  refine HC1.mono ?_
  clear HC1 HW
  rintro e w1 ⟨rfl, hb1⟩
  have HB1 : Hid (Below W.heap.size W w1) := hb1
  clear f0 f1 e0 e1
  obtain ⟨f0, f1, lN⟩ := HF.out _ hb1
  by_cases h0 : er = 0
  rotate_left
  · have hne : (er != 0) = true := by simpa using h0
    have H : Hid (er = r) := by
      show _ = _
      rw [← HRES.out]
      unfold flowE
      rw [if_pos (by rw [HER.out]; exact h0), HER.out]
    clear h0
    go_wp2
    go_ret
    exact ⟨ret_int H.out, HBW.out.trans (HB1.out.mono HBW.out.size)⟩
  · subst h0
    have HSI : Hid (ShapeIn f m0 m1) := shape_in HER.out
    have HFI : Hid (FlowIn f (f.blocks.length * f.blocks.length + 1)) := flowIn_all HER.out
    have HRNG : Hid (∀ b ∈ f.blocks, ∀ e ∈ b.edges, 0 ≤ e.block ∧ e.block < (n : Int)) := by have := HFI.out.rng; rw [HNB.out] at this; exact this
    have hnp : 0 < n := by have := HSI.out.pos; rw [HNB.out] at this; exact this
    have hn16 : n ≤ 16 := by have := HSI.out.nb; rw [HNB.out] at this; exact this
    have HC2 := comeTo_any f.blocks n nv (-1) av ab cv cb w1 HNB.out (HB.out.below hb1 (RBlk.below hb1)) HRNG.out hnp (by omega)
    clear hb1
    go_wp2_with fail
    refine HC2.mono ?_
    clear HC2
    rintro e w2 ⟨R, rfl, hrow, hR, hb2⟩
    have HB2 : Hid (Below W.heap.size W w2) := HB1.out.trans (hb2.mono HB1.out.size)
    have HROW : Hid (w2.rowIs (w1.heap.size + 1) 4 n (fun i => .bool (R i)) ∧ ∀ t, t < n → (R t = true ↔ ReachW (succM f.blocks) (-1) t)) := ⟨hrow, hR⟩
    clear f0 f1 lN hrow hR hb2
    obtain ⟨f0, f1, lN⟩ := HF.out _ HB2.out
    go_wp2_with fail
    go_loopw [7] (fun i wr => ∃ b : Nat, i = .int .i64 b ∧ b ≤ n ∧ wr = w2 ∧ Hid (∀ c, c < b → R c = true)) (fun i _ => n - (intOf i).toNat)
    case atStart => exact ⟨0, rfl, Nat.zero_le _, rfl, fun c hc => by omega⟩
    case round =>
      obtain ⟨b, rfl, hb, hwr, HK⟩ := hrel
      subst hwr
      by_cases hlt : b < n
      · have c0 := HROW.out.1.cell hlt
        obtain ⟨rb, hrb⟩ : ∃ rb, R b = rb := ⟨_, rfl⟩
        rw [hrb] at c0
        have HRB : Hid (R b = rb) := hrb
        clear hrb
        cases rb
        case false =>
          have H : Hid (16 = r) := by
            show _ = _
            rw [← HRES.out, flowE_of HER.out, if_pos]
            apply Nat.lt_of_not_le
            intro hle
            have h := (order_full f.blocks HSI.out.pos HFI.out.suc).1 hle b (by rw [HNB.out]; exact hlt)
            have := (HROW.out.2 b hlt).2 (reachW_all.2 h)
            rw [HRB.out] at this
            cases this
          go_wp2
          go_ret
          exact ⟨ret_int H.out, HBW.out.trans (HB2.out.mono HBW.out.size)⟩
        case true =>
          have HK2 : Hid (∀ c, c < b + 1 → R c = true) := fun c hc => by
            by_cases e : c = b
            · rw [e]; exact HRB.out
            · exact HK.out c (by omega)
          clear HK
          go_wp2
          go_roundw
          case rel => exact ⟨b + 1, by go_num, by omega, (by first | rfl | trivial), HK2⟩
          case measure => simp [intOf]; omega
      · have HLEN : Hid (f.blocks.length ≤ (orderM f.blocks).length) := made_fits HER.out fun c hc => (HROW.out.2 c (by rw [← HNB.out]; exact hc)).1 (HK.out c (by rw [HNB.out] at hc; omega))
        have HRES2 : Hid ((if manyL (predsL f.blocks) f.blocks = true then 11 else if madeL (spU f.blocks f.blocks.length) (idomF f (n * n + 1)) f.blocks = true then 0 else 10) = r) := by
          have h := HRES.out
          rw [flowE_of HER.out, if_neg (by have := HLEN.out; omega)] at h
          exact h
        clear HK HROW HRES
        obtain ⟨W5, hW5⟩ : ∃ W5, W5 = wr := ⟨_, rfl⟩
        subst hW5
        go_wp2_with fail
        go_loopw [8] (fun i wr => ∃ b : Nat, i = .int .i64 b ∧ b ≤ n ∧ Hid (Below W.heap.size W wr ∧ (f.blocks.take b).any (blkMany (predsL f.blocks)) = false)) (fun i _ => n - (intOf i).toNat)
        case atStart => exact ⟨0, rfl, Nat.zero_le _, HB2.out, rfl⟩
        case round =>
          clear f0 f1 lN hlt
          obtain ⟨b, rfl, hb, HK⟩ := hrel
          obtain ⟨wo, hwo⟩ : ∃ wo, wo = wr := ⟨_, rfl⟩
          subst hwo
          obtain ⟨f0, f1, lN⟩ := HF.out _ HK.out.1
          by_cases hlt : b < n
          · have hbl : b < f.blocks.length := by rw [HNB.out]; exact hlt
            obtain ⟨b5, off5, cs, rfl, hcl5, ⟨vp, vi, ve, rfl, hp, hi, he0⟩, hc⟩ := (HB.out.below HK.out.1 (RBlk.below HK.out.1)).at b hbl
            obtain ⟨ae, ce, rfl, le⟩ := he0.out
            unfold longest at le
            have c2 := hc 2 (by simp)
            simp at c2
            have HED : Hid (SlOf wo 2 (REdg wo) (.slice ae f.blocks[b].edges.length ce) f.blocks[b].edges) := he0
            have HRE : Hid (∀ e ∈ f.blocks[b].edges, 0 ≤ e.block ∧ e.block < (n : Int)) := HRNG.out _ (List.getElem_mem hbl)
            have HBM : Hid (blkMany (predsL f.blocks) f.blocks[b] = f.blocks[b].edges.any (edgeM2 (predsL f.blocks) f.blocks[b].edges.length)) := blkMany_of
            clear hc hcl5 hp hi he0
            generalize f.blocks[b].edges = es at *
            go_wp2
            clear c2 f0 f1 lN
            go_loopw [10] (fun i wr => ∃ k : Nat, i = .int .i64 k ∧ k ≤ es.length ∧ Hid (Below wo.heap.size wo wr ∧ (es.take k).any (edgeM2 (predsL f.blocks) es.length) = false)) (fun i _ => es.length - (intOf i).toNat)
            case atStart => exact ⟨0, rfl, Nat.zero_le _, Below.refl _ _, rfl⟩
            case round =>
              obtain ⟨k, rfl, hk, HQ⟩ := hrel
              have HBr : Hid (Below W.heap.size W wr) := HK.out.1.trans (HQ.out.1.mono HK.out.1.size)
              obtain ⟨f0, f1, lN⟩ := HF.out _ HBr.out
              by_cases hltk : k < es.length
              · obtain ⟨b6, off6, cs, rfl, hcl6, ⟨va, rfl, ha⟩, hc6⟩ := (HED.out.below HQ.out.1 (REdg.below HQ.out.1)).at k hltk
                have e0 := hc6 0 (by simp)
                simp at e0
                have hb6 := block_lt e0
                obtain ⟨t, ht⟩ : ∃ t : Nat, es[k].block = (t : Int) := ⟨es[k].block.toNat, by have := HRE.out _ (List.getElem_mem hltk); omega⟩
                have htn : t < n := by have := HRE.out _ (List.getElem_mem hltk); omega
                have HEM : Hid (edgeM2 (predsL f.blocks) es.length es[k] = (decide (1 < es.length) && decide (1 < ((predsL f.blocks).getD t []).length))) := by
                  show _ = _
                  unfold edgeM2 edgeMany
                  rw [ht]
                  rfl
                rw [ht] at e0
                clear hc6 hcl6 ha ht
                have hbd : Below wr.heap.size wr wr.drew := (Below.refl _ _).drew
                by_cases h1 : 1 < es.length
                · have g1 : (1 : Int) < (es.length : Int) := by omega
                  have g1' : decide ((1 : Int) < (es.length : Int)) = true := decide_eq_true g1
                  obtain ⟨c, hc⟩ : ∃ c : Int, (((predsL f.blocks).getD t []).length : Int) = c := ⟨_, rfl⟩
                  have hbD : Below W.heap.size W wr.drew := HBr.out.drew
                  have HCA := edgesInto_is f.blocks n nv t c hc av (some ⟨b5, off5, none⟩) cv cb wr.drew HNB.out (HB.out.below hbD (RBlk.below hbD)) HRNG.out htn HFI.out.few
                  have HCC : Hid ((((predsL f.blocks).getD t []).length : Int) = c) := hc
                  clear hc hbD
                  by_cases h2 : (1 : Int) < c
                  · have g2' : decide ((1 : Int) < c) = true := decide_eq_true h2
                    have H : Hid (11 = r) := by
                      show _ = _
                      rw [← HRES2.out, if_pos]
                      refine anyF_at _ _ b hbl ?_
                      rw [HBM.out]
                      refine anyF_at _ _ k hltk ?_
                      rw [HEM.out, decide_eq_true h1, decide_eq_true (by have := HCC.out; omega)]
                      rfl
                    clear h1
                    have HSk : Hid (∀ w', Below wr.heap.size wr w' → (fun w' => w'.cell? ⟨N, 0, none⟩ = some (.slice av nv cv) ∧ w'.cell? ⟨N, 1, none⟩ = some (.slice (some ⟨b5, off5, none⟩) n cb) ∧ w'.cell? ⟨b6, off6 + k * 2, none⟩ = some (.int .i64 (t : Int)) ∧ Below wr.heap.size wr w') w') := fun w' hh => ⟨(hh.cell (by simp; omega)).trans f0, (hh.cell (by simp; omega)).trans f1, (hh.cell (by simp; omega)).trans e0, hh⟩
                    go_upto_region 17 with fail
                    refine wp_region_X (fun w' => w'.cell? ⟨N, 0, none⟩ = some (.slice av nv cv) ∧ w'.cell? ⟨N, 1, none⟩ = some (.slice (some ⟨b5, off5, none⟩) n cb) ∧ w'.cell? ⟨b6, off6 + k * 2, none⟩ = some (.int .i64 (t : Int)) ∧ Below wr.heap.size wr w') 99 (by kernel_rfl) (HSk.out _ hbd) (fun hHeld => ?_)
                    refine wpXt (v := ?_) 0 rfl (by kernel_rfl) (fun _ _ _ h => h) (by rfl) ?_ hHeld ?_
                    rotate_left
                    · intro w' hSw
                      go_simp <;> with_reducible rfl
                    try simp only [Act.put, List.setIfInBounds_toArray, List.set_cons_zero, List.set_cons_succ]
                    refine wpXt (v := ?_) 1 rfl (by kernel_rfl) (fun _ _ _ h => h) (by rfl) ?_ hHeld ?_
                    rotate_left
                    · intro w' hSw
                      go_simp <;> with_reducible rfl
                    try simp only [Act.put, List.setIfInBounds_toArray, List.set_cons_zero, List.set_cons_succ]
                    refine wpXt (v := ?_) 2 rfl (by kernel_rfl) (fun _ _ _ h => h) (by rfl) ?_ hHeld ?_
                    rotate_left
                    · intro w' hSw
                      go_simp <;> with_reducible rfl
                    try simp only [Act.put, List.setIfInBounds_toArray, List.set_cons_zero, List.set_cons_succ]
                    refine wpXt (v := ?_) 3 rfl (by kernel_rfl) (fun _ _ _ h => h) (by rfl) ?_ hHeld ?_
                    rotate_left
                    · intro w' hSw
                      go_simp <;> with_reducible rfl
                    try simp only [Act.put, List.setIfInBounds_toArray, List.set_cons_zero, List.set_cons_succ]
                    refine wpXt (v := ?_) 4 rfl (by kernel_rfl) (fun _ _ _ h => h) (by rfl) ?_ hHeld ?_
                    rotate_left
                    · intro w' hSw
                      go_simp <;> with_reducible rfl
                    try simp only [Act.put, List.setIfInBounds_toArray, List.set_cons_zero, List.set_cons_succ]
                    refine wpXt (v := ?_) 5 rfl (by kernel_rfl) (fun _ _ _ h => h) (by rfl) ?_ hHeld ?_
                    rotate_left
                    · intro w' hSw
                      go_simp <;> with_reducible rfl
                    try simp only [Act.put, List.setIfInBounds_toArray, List.set_cons_zero, List.set_cons_succ]
                    refine wpXt (v := ?_) 6 rfl (by kernel_rfl) (fun _ _ _ h => h) (by rfl) ?_ hHeld ?_
                    rotate_left
                    · intro w' hSw
                      go_simp <;> with_reducible rfl
                    try simp only [Act.put, List.setIfInBounds_toArray, List.set_cons_zero, List.set_cons_succ]
                    refine wpXt (v := ?_) 7 rfl (by kernel_rfl) (fun _ _ _ h => h) (by rfl) ?_ hHeld ?_
                    rotate_left
                    · intro w' hSw
                      go_simp <;> with_reducible rfl
                    try simp only [Act.put, List.setIfInBounds_toArray, List.set_cons_zero, List.set_cons_succ]
                    refine wpXt (v := ?_) 8 rfl (by kernel_rfl) (fun _ _ _ h => h) (by rfl) ?_ hHeld ?_
                    rotate_left
                    · intro w' hSw
                      go_simp <;> with_reducible rfl
                    try simp only [Act.put, List.setIfInBounds_toArray, List.set_cons_zero, List.set_cons_succ]
                    refine wpXt (v := ?_) 9 rfl (by kernel_rfl) (fun _ _ _ h => h) (by rfl) ?_ hHeld ?_
                    rotate_left
                    · intro w' hSw
                      go_simp <;> with_reducible rfl
                    try simp only [Act.put, List.setIfInBounds_toArray, List.set_cons_zero, List.set_cons_succ]
                    refine wpXs 10 rfl (by kernel_rfl) (fun K hK => ?_)
                    go_simp
                    refine HCA.mono ?_
                    rintro e wn ⟨rfl, hbn0⟩
                    have hbn : Below wr.heap.size wr wn := hbd.trans (hbn0.mono hbd.size)
                    refine hK.out _ _ (HSk.out _ hbn) (fun hHeld => ?_)
                    clear hK K
                    try simp only [Act.put, List.setIfInBounds_toArray, List.set_cons_zero, List.set_cons_succ]
                    refine wpXt (v := ?_) 11 rfl (by kernel_rfl) (fun _ _ _ h => h) (by rfl) ?_ hHeld ?_
                    rotate_left
                    · intro w' hSw
                      go_simp <;> with_reducible rfl
                    try simp only [Act.put, List.setIfInBounds_toArray, List.set_cons_zero, List.set_cons_succ]
                    refine wpXs 12 rfl (by kernel_rfl) (fun K hK => ?_)
                    go_simp
                    refine hK.out _ _ (HSk.out _ hbn) (fun hHeld => ?_)
                    clear hK K
                    try simp only [Act.put, List.setIfInBounds_toArray, List.set_cons_zero, List.set_cons_succ]
                    refine wpAnyX_done (by kernel_rfl) ?_ _
                    go_wp2
                    go_ret
                    exact ⟨ret_int H.out, HBW.out.trans ((HBr.out.trans (hbn.mono HBr.out.size)).mono HBW.out.size)⟩
                  · have g2' : decide ((1 : Int) < c) = false := decide_eq_false h2
                    have HQ2 : Hid ((es.take (k + 1)).any (edgeM2 (predsL f.blocks) es.length) = false) := by
                      refine anyF_snoc _ _ k hltk HQ.out.2 ?_
                      rw [HEM.out, decide_eq_false (p := 1 < ((predsL f.blocks).getD t []).length) (by have := HCC.out; omega)]
                      simp
                    clear h1
                    have HSk : Hid (∀ w', Below wr.heap.size wr w' → (fun w' => w'.cell? ⟨N, 0, none⟩ = some (.slice av nv cv) ∧ w'.cell? ⟨N, 1, none⟩ = some (.slice (some ⟨b5, off5, none⟩) n cb) ∧ w'.cell? ⟨b6, off6 + k * 2, none⟩ = some (.int .i64 (t : Int)) ∧ Below wr.heap.size wr w') w') := fun w' hh => ⟨(hh.cell (by simp; omega)).trans f0, (hh.cell (by simp; omega)).trans f1, (hh.cell (by simp; omega)).trans e0, hh⟩
                    go_upto_region 17 with fail
                    refine wp_region_X (fun w' => w'.cell? ⟨N, 0, none⟩ = some (.slice av nv cv) ∧ w'.cell? ⟨N, 1, none⟩ = some (.slice (some ⟨b5, off5, none⟩) n cb) ∧ w'.cell? ⟨b6, off6 + k * 2, none⟩ = some (.int .i64 (t : Int)) ∧ Below wr.heap.size wr w') 99 (by kernel_rfl) (HSk.out _ hbd) (fun hHeld => ?_)
                    refine wpXt (v := ?_) 0 rfl (by kernel_rfl) (fun _ _ _ h => h) (by rfl) ?_ hHeld ?_
                    rotate_left
                    · intro w' hSw
                      go_simp <;> with_reducible rfl
                    try simp only [Act.put, List.setIfInBounds_toArray, List.set_cons_zero, List.set_cons_succ]
                    refine wpXt (v := ?_) 1 rfl (by kernel_rfl) (fun _ _ _ h => h) (by rfl) ?_ hHeld ?_
                    rotate_left
                    · intro w' hSw
                      go_simp <;> with_reducible rfl
                    try simp only [Act.put, List.setIfInBounds_toArray, List.set_cons_zero, List.set_cons_succ]
                    refine wpXt (v := ?_) 2 rfl (by kernel_rfl) (fun _ _ _ h => h) (by rfl) ?_ hHeld ?_
                    rotate_left
                    · intro w' hSw
                      go_simp <;> with_reducible rfl
                    try simp only [Act.put, List.setIfInBounds_toArray, List.set_cons_zero, List.set_cons_succ]
                    refine wpXt (v := ?_) 3 rfl (by kernel_rfl) (fun _ _ _ h => h) (by rfl) ?_ hHeld ?_
                    rotate_left
                    · intro w' hSw
                      go_simp <;> with_reducible rfl
                    try simp only [Act.put, List.setIfInBounds_toArray, List.set_cons_zero, List.set_cons_succ]
                    refine wpXt (v := ?_) 4 rfl (by kernel_rfl) (fun _ _ _ h => h) (by rfl) ?_ hHeld ?_
                    rotate_left
                    · intro w' hSw
                      go_simp <;> with_reducible rfl
                    try simp only [Act.put, List.setIfInBounds_toArray, List.set_cons_zero, List.set_cons_succ]
                    refine wpXt (v := ?_) 5 rfl (by kernel_rfl) (fun _ _ _ h => h) (by rfl) ?_ hHeld ?_
                    rotate_left
                    · intro w' hSw
                      go_simp <;> with_reducible rfl
                    try simp only [Act.put, List.setIfInBounds_toArray, List.set_cons_zero, List.set_cons_succ]
                    refine wpXt (v := ?_) 6 rfl (by kernel_rfl) (fun _ _ _ h => h) (by rfl) ?_ hHeld ?_
                    rotate_left
                    · intro w' hSw
                      go_simp <;> with_reducible rfl
                    try simp only [Act.put, List.setIfInBounds_toArray, List.set_cons_zero, List.set_cons_succ]
                    refine wpXt (v := ?_) 7 rfl (by kernel_rfl) (fun _ _ _ h => h) (by rfl) ?_ hHeld ?_
                    rotate_left
                    · intro w' hSw
                      go_simp <;> with_reducible rfl
                    try simp only [Act.put, List.setIfInBounds_toArray, List.set_cons_zero, List.set_cons_succ]
                    refine wpXt (v := ?_) 8 rfl (by kernel_rfl) (fun _ _ _ h => h) (by rfl) ?_ hHeld ?_
                    rotate_left
                    · intro w' hSw
                      go_simp <;> with_reducible rfl
                    try simp only [Act.put, List.setIfInBounds_toArray, List.set_cons_zero, List.set_cons_succ]
                    refine wpXt (v := ?_) 9 rfl (by kernel_rfl) (fun _ _ _ h => h) (by rfl) ?_ hHeld ?_
                    rotate_left
                    · intro w' hSw
                      go_simp <;> with_reducible rfl
                    try simp only [Act.put, List.setIfInBounds_toArray, List.set_cons_zero, List.set_cons_succ]
                    refine wpXs 10 rfl (by kernel_rfl) (fun K hK => ?_)
                    go_simp
                    refine HCA.mono ?_
                    rintro e wn ⟨rfl, hbn0⟩
                    have hbn : Below wr.heap.size wr wn := hbd.trans (hbn0.mono hbd.size)
                    refine hK.out _ _ (HSk.out _ hbn) (fun hHeld => ?_)
                    clear hK K
                    try simp only [Act.put, List.setIfInBounds_toArray, List.set_cons_zero, List.set_cons_succ]
                    refine wpXt (v := ?_) 11 rfl (by kernel_rfl) (fun _ _ _ h => h) (by rfl) ?_ hHeld ?_
                    rotate_left
                    · intro w' hSw
                      go_simp <;> with_reducible rfl
                    try simp only [Act.put, List.setIfInBounds_toArray, List.set_cons_zero, List.set_cons_succ]
                    refine wpXs 12 rfl (by kernel_rfl) (fun K hK => ?_)
                    go_simp
                    refine hK.out _ _ (HSk.out _ hbn) (fun hHeld => ?_)
                    clear hK K
                    try simp only [Act.put, List.setIfInBounds_toArray, List.set_cons_zero, List.set_cons_succ]
                    refine wpAnyX_done (by kernel_rfl) ?_ _
                    have HQ3 : Hid (Below wo.heap.size wo wn ∧ (es.take (k + 1)).any (edgeM2 (predsL f.blocks) es.length) = false) := ⟨HQ.out.1.trans (hbn.mono HQ.out.1.size), HQ2.out⟩
                    clear f0 f1 lN e0 hbd hbn0 hbn HSk HQ HBr
                    go_wp2
                    go_roundw
                    case rel => exact ⟨k + 1, by go_num, by omega, HQ3⟩
                    case measure => simp [intOf]; omega
                · have g1 : ¬ (1 : Int) < (es.length : Int) := by omega
                  have g1' : decide ((1 : Int) < (es.length : Int)) = false := decide_eq_false g1
                  have HQ3 : Hid (Below wo.heap.size wo wr.drew ∧ (es.take (k + 1)).any (edgeM2 (predsL f.blocks) es.length) = false) := by
                    refine ⟨HQ.out.1.drew, anyF_snoc _ _ k hltk HQ.out.2 ?_⟩
                    rw [HEM.out, decide_eq_false h1]
                    rfl
                  clear h1
                  have HSk : Hid (∀ w', Below wr.heap.size wr w' → (fun w' => w'.cell? ⟨N, 0, none⟩ = some (.slice av nv cv) ∧ w'.cell? ⟨N, 1, none⟩ = some (.slice (some ⟨b5, off5, none⟩) n cb) ∧ w'.cell? ⟨b6, off6 + k * 2, none⟩ = some (.int .i64 (t : Int)) ∧ Below wr.heap.size wr w') w') := fun w' hh => ⟨(hh.cell (by simp; omega)).trans f0, (hh.cell (by simp; omega)).trans f1, (hh.cell (by simp; omega)).trans e0, hh⟩
                  go_upto_region 17 with fail
                  refine wp_region_X (fun w' => w'.cell? ⟨N, 0, none⟩ = some (.slice av nv cv) ∧ w'.cell? ⟨N, 1, none⟩ = some (.slice (some ⟨b5, off5, none⟩) n cb) ∧ w'.cell? ⟨b6, off6 + k * 2, none⟩ = some (.int .i64 (t : Int)) ∧ Below wr.heap.size wr w') 99 (by kernel_rfl) (HSk.out _ hbd) (fun hHeld => ?_)
                  refine wpXt (v := ?_) 0 rfl (by kernel_rfl) (fun _ _ _ h => h) (by rfl) ?_ hHeld ?_
                  rotate_left
                  · intro w' hSw
                    go_simp <;> with_reducible rfl
                  try simp only [Act.put, List.setIfInBounds_toArray, List.set_cons_zero, List.set_cons_succ]
                  refine wpXt (v := ?_) 1 rfl (by kernel_rfl) (fun _ _ _ h => h) (by rfl) ?_ hHeld ?_
                  rotate_left
                  · intro w' hSw
                    go_simp <;> with_reducible rfl
                  try simp only [Act.put, List.setIfInBounds_toArray, List.set_cons_zero, List.set_cons_succ]
                  refine wpXt (v := ?_) 2 rfl (by kernel_rfl) (fun _ _ _ h => h) (by rfl) ?_ hHeld ?_
                  rotate_left
                  · intro w' hSw
                    go_simp <;> with_reducible rfl
                  try simp only [Act.put, List.setIfInBounds_toArray, List.set_cons_zero, List.set_cons_succ]
                  refine wpXt (v := ?_) 3 rfl (by kernel_rfl) (fun _ _ _ h => h) (by rfl) ?_ hHeld ?_
                  rotate_left
                  · intro w' hSw
                    go_simp <;> with_reducible rfl
                  try simp only [Act.put, List.setIfInBounds_toArray, List.set_cons_zero, List.set_cons_succ]
                  refine wpXk 4 rfl (by kernel_rfl) (fun _ _ _ h => h) (by rfl) hHeld ?_
                  try simp only [Act.put, List.setIfInBounds_toArray, List.set_cons_zero, List.set_cons_succ]
                  refine wpXk 5 rfl (by kernel_rfl) (fun _ _ _ h => h) (by rfl) hHeld ?_
                  try simp only [Act.put, List.setIfInBounds_toArray, List.set_cons_zero, List.set_cons_succ]
                  refine wpXk 6 rfl (by kernel_rfl) (fun _ _ _ h => h) (by rfl) hHeld ?_
                  try simp only [Act.put, List.setIfInBounds_toArray, List.set_cons_zero, List.set_cons_succ]
                  refine wpXk 7 rfl (by kernel_rfl) (fun _ _ _ h => h) (by rfl) hHeld ?_
                  try simp only [Act.put, List.setIfInBounds_toArray, List.set_cons_zero, List.set_cons_succ]
                  refine wpXk 8 rfl (by kernel_rfl) (fun _ _ _ h => h) (by rfl) hHeld ?_
                  try simp only [Act.put, List.setIfInBounds_toArray, List.set_cons_zero, List.set_cons_succ]
                  refine wpXk 9 rfl (by kernel_rfl) (fun _ _ _ h => h) (by rfl) hHeld ?_
                  try simp only [Act.put, List.setIfInBounds_toArray, List.set_cons_zero, List.set_cons_succ]
                  refine wpXk 10 rfl (by kernel_rfl) (fun _ _ _ h => h) (by rfl) hHeld ?_
                  try simp only [Act.put, List.setIfInBounds_toArray, List.set_cons_zero, List.set_cons_succ]
                  refine wpXk 11 rfl (by kernel_rfl) (fun _ _ _ h => h) (by rfl) hHeld ?_
                  try simp only [Act.put, List.setIfInBounds_toArray, List.set_cons_zero, List.set_cons_succ]
                  refine wpXs 12 rfl (by kernel_rfl) (fun K hK => ?_)
                  go_simp
                  refine hK.out _ _ (HSk.out _ hbd) (fun hHeld => ?_)
                  clear hK K
                  try simp only [Act.put, List.setIfInBounds_toArray, List.set_cons_zero, List.set_cons_succ]
                  refine wpAnyX_done (by kernel_rfl) ?_ _
                  clear f0 f1 lN e0 hbd HSk HQ HBr
                  go_wp2
                  go_roundw
                  case rel => exact ⟨k + 1, by go_num, by omega, HQ3⟩
                  case measure => simp [intOf]; omega
              · have HK2 : Hid (Below W.heap.size W wr ∧ (f.blocks.take (b + 1)).any (blkMany (predsL f.blocks)) = false) := by
                  refine ⟨HBr.out, anyF_snoc _ _ b hbl HK.out.2 ?_⟩
                  rw [HBM.out]
                  exact anyF_end _ _ k (by omega) HQ.out.2
                clear HQ
                go_wp2
                go_roundw
                case rel => exact ⟨b + 1, by go_num, by omega, HK2⟩
                case measure => simp [intOf]; omega
          · have HRES3 : Hid ((if madeL (spU f.blocks f.blocks.length) (idomF f (n * n + 1)) f.blocks = true then 0 else 10) = r) := by
              have h := HRES2.out
              have hm : manyL (predsL f.blocks) f.blocks = false := anyF_end _ _ b (by rw [HNB.out]; omega) HK.out.2
              rw [if_neg (by rw [hm]; simp)] at h
              exact h
            have HBo : Hid (Below W.heap.size W wo) := HK.out.1
            have HMC : Hid (∀ (v : Int), isValueB nv v = true → ∀ (block pos : Nat), block < n → ∀ rr, aheadM (idomF f (n * n + 1)) n (spotOf (spU f.blocks n) v.toNat) ((block : Int), (pos : Int)) = rr → ∀ w', Below W.heap.size W w' → Calls Try.prog 40 #[.agg #[.slice av nv cv, .slice ab n cb], .int .i64 v, .int .i64 block, .int .i64 pos] w' fun e w'' => e = .returned (.bool rr) ∧ Below w'.heap.size w' w'') := fun v hv block pos hb rr hrr w' hh => made_call f n nv m0 m1 HNB.out HNV.out HER.out HLEN.out v hv block pos hb rr hrr av ab cv cb w' (HB.out.below hh (RBlk.below hh))
            clear HK HRES2
            go_wp2_with fail
            clear f0 f1 lN
            go_loopw [11] (fun i wr => ∃ b : Nat, i = .int .i64 b ∧ b ≤ n ∧ Hid (Below W.heap.size W wr ∧ ∀ c, c < b → blkOk (spU f.blocks n) (idomF f (n * n + 1)) n f.blocks c = true)) (fun i _ => n - (intOf i).toNat)
            case atStart => exact ⟨0, rfl, Nat.zero_le _, HBo.out, fun c hc => by omega⟩
            case round =>
              clear HBo hlt
              obtain ⟨b, rfl, hb, HK⟩ := hrel
              obtain ⟨wo, hwo⟩ : ∃ wo, wo = wr := ⟨_, rfl⟩
              subst hwo
              obtain ⟨f0, f1, lN⟩ := HF.out _ HK.out.1
              by_cases hlt : b < n
              · have hbl : b < f.blocks.length := by rw [HNB.out]; exact hlt
                obtain ⟨b5, off5, cs, rfl, hcl5, ⟨vp, vi, ve, rfl, hp, hi, he0⟩, hc⟩ := (HB.out.below HK.out.1 (RBlk.below HK.out.1)).at b hbl
                obtain ⟨ap, cp, rfl, _⟩ := hp.out
                obtain ⟨ai, ci, rfl, li⟩ := hi.out
                obtain ⟨ae, ce, rfl, le⟩ := he0.out
                unfold longest at li le
                have c0 := hc 0 (by simp)
                have c1 := hc 1 (by simp)
                have c2 := hc 2 (by simp)
                simp at c0 c1 c2
                have HBAD : Hid (∀ (i : Nat) (hi : i < f.blocks[b].instrs.length) (o : Opr), o ∈ f.blocks[b].instrs[i].operands → useOk (spU f.blocks n) (idomF f (n * n + 1)) n b i o = false → 10 = r) := fun i hi o ho h => by
                  rw [← HRES3.out, if_neg]
                  rw [use_bad (L := spU f.blocks f.blocks.length) hbl hi ho (by rw [HNB.out]; exact h)]
                  simp
                have HBAD2 : Hid (∀ e ∈ f.blocks[b].edges, ∀ v ∈ e.args, argOk (spU f.blocks n) (idomF f (n * n + 1)) n b f.blocks[b].instrs.length v = false → 10 = r) := fun e he v hv h => by
                  rw [← HRES3.out, if_neg]
                  rw [arg_bad (L := spU f.blocks f.blocks.length) hbl he hv (by rw [HNB.out]; exact h)]
                  simp
                have HBOK : Hid ((∀ i, i < f.blocks[b].instrs.length → insOk (spU f.blocks n) (idomF f (n * n + 1)) n b f.blocks[b].instrs i = true) → f.blocks[b].edges.all (edgOk (spU f.blocks n) (idomF f (n * n + 1)) n b f.blocks[b].instrs.length) = true → blkOk (spU f.blocks n) (idomF f (n * n + 1)) n f.blocks b = true) := fun h1 h2 => by
                  rw [blkOk_at hbl, Bool.and_eq_true]
                  exact ⟨List.all_eq_true.2 fun i hi => h1 i (List.mem_range.1 hi), h2⟩
                have HVI : Hid (∀ x ∈ f.blocks[b].instrs, ∀ o ∈ x.operands, isValueB nv o.value = true) := fun x hx o ho => by
                  have := instrErr_val (HSI.out.ins _ (List.getElem_mem hbl) x hx) o ho
                  rw [HNV.out] at this
                  exact this
                have HVE : Hid (∀ e ∈ f.blocks[b].edges, ∀ v ∈ e.args, isValueB nv v = true) := fun e he v hv => by
                  have := (edgeErr_val (HSI.out.edg _ (List.getElem_mem hbl) e he)).2.2 v hv
                  rw [HNV.out] at this
                  exact this
                have HBo : Hid (Below W.heap.size W wo) := HK.out.1
                have HKB : Hid (∀ c, c < b → blkOk (spU f.blocks n) (idomF f (n * n + 1)) n f.blocks c = true) := HK.out.2
                obtain ⟨np, hnp'⟩ : ∃ np, f.blocks[b].params.length = np := ⟨_, rfl⟩
                rw [hnp'] at c0
                obtain ⟨ni, hni⟩ : ∃ ni, f.blocks[b].instrs.length = ni := ⟨_, rfl⟩
                have HNI : Hid (f.blocks[b].instrs.length = ni) := hni
                rw [hni] at c1 hi li
                obtain ⟨W3, hW3⟩ : ∃ W3, W3 = wo.alloc (.cells #[.slice ap np cp, .slice ai ni ci, .slice ae f.blocks[b].edges.length ce] 75) := ⟨_, rfl⟩
                obtain ⟨P, hP⟩ : ∃ P, wo.heap.size = P := ⟨_, rfl⟩
                have hb3 : Below wo.heap.size wo W3 := by rw [hW3]; exact (Below.refl _ _).alloc (Nat.le_refl _) _
                have t1 := top_at wo #[.slice ap np cp, .slice ai ni ci, .slice ae f.blocks[b].edges.length ce] 75
                rw [← hW3, hP] at t1
                have HD : Hid (∀ w', Below W3.heap.size W3 w' → w'.cell? ⟨P, 1, none⟩ = some (.slice ai ni ci) ∧ w'.cell? ⟨P, 2, none⟩ = some (.slice ae f.blocks[b].edges.length ce) ∧ P < w'.heap.size) := fun w' hh => ⟨(hh.cell (p := ⟨P, 1, none⟩) (block_lt (t1 1))).trans (t1 1), (hh.cell (p := ⟨P, 2, none⟩) (block_lt (t1 2))).trans (t1 2), Nat.lt_of_lt_of_le (block_lt (t1 2)) hh.size⟩
                have HIN : Hid (SlOf W3 3 (RIns W3) (.slice ai ni ci) f.blocks[b].instrs) := hi.below hb3 (RIns.below hb3)
                have HED : Hid (SlOf W3 2 (REdg W3) (.slice ae f.blocks[b].edges.length ce) f.blocks[b].edges) := he0.below hb3 (REdg.below hb3)
                have HB3 : Hid (Below W.heap.size W W3) := HBo.out.trans (hb3.mono HBo.out.size)
                have HW3 : Hid (W3 = wo.alloc (.cells #[.slice ap np cp, .slice ai ni ci, .slice ae f.blocks[b].edges.length ce] 75)) := hW3
                have HP : Hid (wo.heap.size = P) := hP
                clear hc hcl5 hp hi he0 HK hnp' hni hW3 hP hb3 t1
                go_upto_region 23 with fail
                rw [← HW3.out, HP.out]
                clear HW3 HP c0 c1 c2 f0 f1 lN
                obtain ⟨d1, d2, lP⟩ := HD.out _ (Below.refl _ _)
                go_wp2_with fail
                clear d1 d2 lP
                go_loopw [13] (fun x wr => ∃ i : Nat, x = .int .i64 i ∧ i ≤ ni ∧ Hid (Below W3.heap.size W3 wr ∧ ∀ c, c < i → insOk (spU f.blocks n) (idomF f (n * n + 1)) n b f.blocks[b].instrs c = true)) (fun x _ => ni - (intOf x).toNat)
                case atStart => exact ⟨0, rfl, Nat.zero_le _, Below.refl _ _, fun c hc => by omega⟩
                case round =>
                  obtain ⟨i, rfl, hi, HQ⟩ := hrel
                  obtain ⟨wi, hwi⟩ : ∃ wi, wi = wr := ⟨_, rfl⟩
                  subst hwi
                  obtain ⟨d1, d2, lP⟩ := HD.out _ HQ.out.1
                  by_cases hlti : i < ni
                  · have hil : i < f.blocks[b].instrs.length := by rw [HNI.out]; exact hlti
                    have HIOK : Hid (insOk (spU f.blocks n) (idomF f (n * n + 1)) n b f.blocks[b].instrs i = f.blocks[b].instrs[i].operands.all (useOk (spU f.blocks n) (idomF f (n * n + 1)) n b i)) := insOk_at hil
                    have HIB : Hid (∀ o ∈ f.blocks[b].instrs[i].operands, useOk (spU f.blocks n) (idomF f (n * n + 1)) n b i o = false → 10 = r) := HBAD.out i hil
                    have HIV : Hid (∀ o ∈ f.blocks[b].instrs[i].operands, isValueB nv o.value = true) := HVI.out _ (List.getElem_mem hil)
                    have HINi : Hid (∀ w', Below W3.heap.size W3 w' → ∃ b7 off7 ao co, ai = some ⟨b7, off7, none⟩ ∧ w'.cell? ⟨b7, off7 + i * 3 + 1, none⟩ = some (.slice ao f.blocks[b].instrs[i].operands.length co) ∧ SlOf w' 5 ROpr (.slice ao f.blocks[b].instrs[i].operands.length co) f.blocks[b].instrs[i].operands) := fun w' hh => by
                      obtain ⟨b7, off7, cs, rfl, hcl7, ⟨vo, vs, rfl, ho7, hs7⟩, hc7⟩ := (HIN.out.below hh (RIns.below hh)).at i hil
                      obtain ⟨ao, co, rfl, lo⟩ := ho7.out
                      exact ⟨b7, off7, ao, co, rfl, hc7 1 (by simp), ho7⟩
                    go_wp2_with fail
                    clear d1 d2 lP
                    go_loopw [14] (fun x wr => ∃ k : Nat, x = .int .i64 k ∧ k ≤ f.blocks[b].instrs[i].operands.length ∧ Hid (Below W3.heap.size W3 wr ∧ (f.blocks[b].instrs[i].operands.take k).all (useOk (spU f.blocks n) (idomF f (n * n + 1)) n b i) = true)) (fun x _ => f.blocks[b].instrs[i].operands.length - (intOf x).toNat)
                    case atStart => exact ⟨0, rfl, Nat.zero_le _, HQ.out.1, rfl⟩
                    case round =>
                      obtain ⟨k, rfl, hk, HU⟩ := hrel
                      obtain ⟨d1, d2, lP⟩ := HD.out _ HU.out.1
                      obtain ⟨b7, off7, ao, co, rfl, x1, hops⟩ := HINi.out _ HU.out.1
                      have lo : f.blocks[b].instrs[i].operands.length ≤ 140737488355328 := by
                        obtain ⟨_, _, _, h⟩ := hops.out
                        unfold longest at h
                        exact h
                      have HBr : Hid (Below W.heap.size W wr) := HB3.out.trans (HU.out.1.mono HB3.out.size)
                      obtain ⟨f0, f1, lN⟩ := HF.out _ HBr.out
                      by_cases hltk : k < f.blocks[b].instrs[i].operands.length
                      · obtain ⟨b8, off8, cs, rfl, hcl8, rfl, hc8⟩ := hops.at k hltk
                        have o0 := hc8 0 (by simp)
                        have o1 := hc8 1 (by simp)
                        have o2 := hc8 2 (by simp)
                        have o3 := hc8 3 (by simp)
                        have o4 := hc8 4 (by simp)
                        simp at o0 o1 o2 o3 o4
                        clear hc8 hcl8 hops
                        have HOM : Hid (f.blocks[b].instrs[i].operands[k] ∈ f.blocks[b].instrs[i].operands) := List.getElem_mem hltk
                        have HOV : Hid (isValueB nv f.blocks[b].instrs[i].operands[k].value = true) := HIV.out _ HOM.out
                        have HOB : Hid (useOk (spU f.blocks n) (idomF f (n * n + 1)) n b i f.blocks[b].instrs[i].operands[k] = false → 10 = r) := HIB.out _ HOM.out
                        have HON : Hid (useOk (spU f.blocks n) (idomF f (n * n + 1)) n b i f.blocks[b].instrs[i].operands[k] = true → (f.blocks[b].instrs[i].operands.take (k + 1)).all (useOk (spU f.blocks n) (idomF f (n * n + 1)) n b i) = true) := all_take hltk HU.out.2
                        clear HOM
                        generalize f.blocks[b].instrs[i].operands[k] = o at *
                        obtain ⟨W4, hW4⟩ : ∃ W4, W4 = wr.alloc (.cells #[.int .i64 o.kind, .int .i64 o.value, .bool o.late, .int .i64 o.limit, .int .i64 o.n] 78) := ⟨_, rfl⟩
                        have hb4 : Below wr.heap.size wr W4 := by rw [hW4]; exact (Below.refl _ _).alloc (Nat.le_refl _) _
                        have t1 := top_at wr #[.int .i64 o.kind, .int .i64 o.value, .bool o.late, .int .i64 o.limit, .int .i64 o.n] 78
                        rw [← hW4] at t1
                        have q0 : W4.cell? ⟨wr.heap.size, 0, none⟩ = some (.int .i64 o.kind) := t1 0
                        have q1 : W4.cell? ⟨wr.heap.size, 1, none⟩ = some (.int .i64 o.value) := t1 1
                        have HW4 : Hid (W4 = wr.alloc (.cells #[.int .i64 o.kind, .int .i64 o.value, .bool o.late, .int .i64 o.limit, .int .i64 o.n] 78)) := hW4
                        have HB4 : Hid (Below W3.heap.size W3 W4) := HU.out.1.trans (hb4.mono HU.out.1.size)
                        have HBX : Hid (Below W.heap.size W W4) := HBr.out.trans (hb4.mono HBr.out.size)
                        clear hW4 t1 hb4 HU
                        go_upto_region 30 with fail
                        rw [← HW4.out]
                        clear HW4 f0 f1 lN d1 d2 lP x1 o0 o1 o2 o3 o4
                        obtain ⟨f0, f1, lN⟩ := HF.out _ HBX.out
                        by_cases hk1 : o.kind = 1
                        · have g1 : (o.kind == 1) = true := by simp [hk1]
                          obtain ⟨rr, hrr⟩ : ∃ rr, aheadM (idomF f (n * n + 1)) n (spotOf (spU f.blocks n) o.value.toNat) ((b : Int), (i : Int)) = rr := ⟨_, rfl⟩
                          have HCA := HMC.out o.value HOV.out b i hlt rr hrr W4 HBX.out
                          have HUO : Hid (useOk (spU f.blocks n) (idomF f (n * n + 1)) n b i o = rr) := by
                            show _ = _
                            unfold useOk
                            rw [g1, hrr]
                            rfl
                          clear hk1 hrr
                          go_wp2_with fail
                          refine HCA.mono ?_
                          clear HCA
                          rintro e w6 ⟨rfl, hb6⟩
                          have HB6 : Hid (Below W3.heap.size W3 w6) := HB4.out.trans (hb6.mono HB4.out.size)
                          have HBX6 : Hid (Below W.heap.size W w6) := HBX.out.trans (hb6.mono HBX.out.size)
                          clear f0 f1 lN hb6 q0 q1
                          cases rr
                          case false =>
                            have H : Hid (10 = r) := HOB.out HUO.out
                            go_wp2
                            go_ret
                            exact ⟨ret_int H.out, HBW.out.trans (HBX6.out.mono HBW.out.size)⟩
                          case true =>
                            have HU2 : Hid (Below W3.heap.size W3 w6 ∧ (f.blocks[b].instrs[i].operands.take (k + 1)).all (useOk (spU f.blocks n) (idomF f (n * n + 1)) n b i) = true) := ⟨HB6.out, HON.out HUO.out⟩
                            go_wp2
                            go_roundw
                            case rel => exact ⟨k + 1, by go_num, by omega, HU2⟩
                            case measure => simp [intOf]; omega
                        · have g1 : (o.kind == 1) = false := by simp [hk1]
                          have HU2 : Hid (Below W3.heap.size W3 W4 ∧ (f.blocks[b].instrs[i].operands.take (k + 1)).all (useOk (spU f.blocks n) (idomF f (n * n + 1)) n b i) = true) := ⟨HB4.out, HON.out (by unfold useOk; rw [g1]; rfl)⟩
                          clear hk1
                          go_wp2
                          go_roundw
                          case rel => exact ⟨k + 1, by go_num, by omega, HU2⟩
                          case measure => simp [intOf]; omega
                      · have HQ2 : Hid (Below W3.heap.size W3 wr ∧ ∀ c, c < i + 1 → insOk (spU f.blocks n) (idomF f (n * n + 1)) n b f.blocks[b].instrs c = true) := by
                          refine ⟨HU.out.1, fun c hc => ?_⟩
                          by_cases e : c = i
                          · rw [e, HIOK.out]
                            have := HU.out.2
                            rw [List.take_of_length_le (by omega)] at this
                            exact this
                          · exact HQ.out.2 c (by omega)
                        clear HU hops
                        go_wp2
                        go_roundw
                        case rel => exact ⟨i + 1, by go_num, by omega, HQ2⟩
                        case measure => simp [intOf]; omega
                  · have HIALL : Hid (∀ c, c < f.blocks[b].instrs.length → insOk (spU f.blocks n) (idomF f (n * n + 1)) n b f.blocks[b].instrs c = true) := fun c hc => HQ.out.2 c (by rw [HNI.out] at hc; omega)
                    have HBOK2 : Hid (f.blocks[b].edges.all (edgOk (spU f.blocks n) (idomF f (n * n + 1)) n b ni) = true → blkOk (spU f.blocks n) (idomF f (n * n + 1)) n f.blocks b = true) := by
                      have := HBOK.out HIALL.out
                      rw [HNI.out] at this
                      exact this
                    have HBAD3 : Hid (∀ e ∈ f.blocks[b].edges, ∀ v ∈ e.args, argOk (spU f.blocks n) (idomF f (n * n + 1)) n b ni v = false → 10 = r) := by
                      have := HBAD2.out
                      rw [HNI.out] at this
                      exact this
                    have HBi : Hid (Below W3.heap.size W3 wi) := HQ.out.1
                    clear HIALL HBOK HBAD2 HBAD HVI HIN HNI HQ
                    generalize f.blocks[b].edges = es at *
                    go_wp2_with fail
                    clear d1 d2 lP
                    go_loopw [16] (fun x wr => ∃ k : Nat, x = .int .i64 k ∧ k ≤ es.length ∧ Hid (Below W3.heap.size W3 wr ∧ (es.take k).all (edgOk (spU f.blocks n) (idomF f (n * n + 1)) n b ni) = true)) (fun x _ => es.length - (intOf x).toNat)
                    case atStart => exact ⟨0, rfl, Nat.zero_le _, HBi.out, rfl⟩
                    case round =>
                      clear hlti
                      obtain ⟨k, rfl, hk, HU⟩ := hrel
                      obtain ⟨wk, hwk⟩ : ∃ wk, wk = wr := ⟨_, rfl⟩
                      subst hwk
                      obtain ⟨d1, d2, lP⟩ := HD.out _ HU.out.1
                      by_cases hltk : k < es.length
                      · have HEV : Hid (∀ v ∈ es[k].args, isValueB nv v = true) := HVE.out _ (List.getElem_mem hltk)
                        have HEB : Hid (∀ v ∈ es[k].args, argOk (spU f.blocks n) (idomF f (n * n + 1)) n b ni v = false → 10 = r) := HBAD3.out _ (List.getElem_mem hltk)
                        have HEN : Hid (edgOk (spU f.blocks n) (idomF f (n * n + 1)) n b ni es[k] = true → (es.take (k + 1)).all (edgOk (spU f.blocks n) (idomF f (n * n + 1)) n b ni) = true) := all_take hltk HU.out.2
                        have HEA : Hid (edgOk (spU f.blocks n) (idomF f (n * n + 1)) n b ni es[k] = es[k].args.all (argOk (spU f.blocks n) (idomF f (n * n + 1)) n b ni)) := rfl
                        have HEK : Hid (∀ w', Below W3.heap.size W3 w' → ∃ b8 off8 aa ca, ae = some ⟨b8, off8, none⟩ ∧ w'.cell? ⟨b8, off8 + k * 2 + 1, none⟩ = some (.slice aa es[k].args.length ca) ∧ SlOf w' 1 RInt (.slice aa es[k].args.length ca) es[k].args) := fun w' hh => by
                          obtain ⟨b8, off8, cs, rfl, hcl7, ⟨va, rfl, hg⟩, hc7⟩ := (HED.out.below hh (REdg.below hh)).at k hltk
                          obtain ⟨aa, ca, rfl, lo⟩ := hg.out
                          exact ⟨b8, off8, aa, ca, rfl, hc7 1 (by simp), hg⟩
                        generalize es[k].args = gs at *
                        go_wp2_with fail
                        clear d1 d2 lP
                        go_loopw [17] (fun x wr => ∃ j : Nat, x = .int .i64 j ∧ j ≤ gs.length ∧ Hid (Below W3.heap.size W3 wr ∧ (gs.take j).all (argOk (spU f.blocks n) (idomF f (n * n + 1)) n b ni) = true)) (fun x _ => gs.length - (intOf x).toNat)
                        case atStart => exact ⟨0, rfl, Nat.zero_le _, HU.out.1, rfl⟩
                        case round =>
                          obtain ⟨j, rfl, hj, HA⟩ := hrel
                          obtain ⟨d1, d2, lP⟩ := HD.out _ HA.out.1
                          obtain ⟨b8, off8, aa, ca, rfl, a1, hargs⟩ := HEK.out _ HA.out.1
                          have la : gs.length ≤ 140737488355328 := by
                            obtain ⟨_, _, _, h⟩ := hargs.out
                            unfold longest at h
                            exact h
                          have HBr : Hid (Below W.heap.size W wr) := HB3.out.trans (HA.out.1.mono HB3.out.size)
                          obtain ⟨f0, f1, lN⟩ := HF.out _ HBr.out
                          have hb8 := block_lt a1
                          by_cases hltj : j < gs.length
                          · obtain ⟨b9, off9, rfl, hb9, a2⟩ := int_cell hargs j hltj
                            have hbd : Below wr.heap.size wr wr.drew := (Below.refl _ _).drew
                            obtain ⟨rr, hrr⟩ : ∃ rr, aheadM (idomF f (n * n + 1)) n (spotOf (spU f.blocks n) gs[j].toNat) ((b : Int), (ni : Int)) = rr := ⟨_, rfl⟩
                            have HCA := HMC.out gs[j] (HEV.out _ (List.getElem_mem hltj)) b ni hlt rr hrr wr.drew HBr.out.drew
                            have HUO : Hid (argOk (spU f.blocks n) (idomF f (n * n + 1)) n b ni gs[j] = rr) := hrr
                            clear hrr hargs
                            have HSk : Hid (∀ w', Below wr.heap.size wr w' → (fun w' => w'.cell? ⟨N, 0, none⟩ = some (.slice av nv cv) ∧ w'.cell? ⟨N, 1, none⟩ = some (.slice (some ⟨b5, off5, none⟩) n cb) ∧ w'.cell? ⟨P, 1, none⟩ = some (.slice ai ni ci) ∧ w'.cell? ⟨P, 2, none⟩ = some (.slice (some ⟨b8, off8, none⟩) es.length ce) ∧ w'.cell? ⟨b8, off8 + k * 2 + 1, none⟩ = some (.slice (some ⟨b9, off9, none⟩) gs.length ca) ∧ w'.cell? ⟨b9, off9 + j, none⟩ = some (.int .i64 gs[j]) ∧ Below wr.heap.size wr w') w') := fun w' hh => ⟨(hh.cell (by simp; omega)).trans f0, (hh.cell (by simp; omega)).trans f1, (hh.cell (by simp; omega)).trans d1, (hh.cell (by simp; omega)).trans d2, (hh.cell (by simp; omega)).trans a1, (hh.cell (by simp; omega)).trans a2, hh⟩
                            go_upto_region 38 with fail
                            refine wp_region_X (fun w' => w'.cell? ⟨N, 0, none⟩ = some (.slice av nv cv) ∧ w'.cell? ⟨N, 1, none⟩ = some (.slice (some ⟨b5, off5, none⟩) n cb) ∧ w'.cell? ⟨P, 1, none⟩ = some (.slice ai ni ci) ∧ w'.cell? ⟨P, 2, none⟩ = some (.slice (some ⟨b8, off8, none⟩) es.length ce) ∧ w'.cell? ⟨b8, off8 + k * 2 + 1, none⟩ = some (.slice (some ⟨b9, off9, none⟩) gs.length ca) ∧ w'.cell? ⟨b9, off9 + j, none⟩ = some (.int .i64 gs[j]) ∧ Below wr.heap.size wr w') 99 (by kernel_rfl) (HSk.out _ hbd) (fun hHeld => ?_)
                            refine wpXt (v := ?_) 0 rfl (by kernel_rfl) (fun _ _ _ h => h) (by rfl) ?_ hHeld ?_
                            rotate_left
                            · intro w' hSw
                              go_simp <;> with_reducible rfl
                            try simp only [Act.put, List.setIfInBounds_toArray, List.set_cons_zero, List.set_cons_succ]
                            refine wpXt (v := ?_) 1 rfl (by kernel_rfl) (fun _ _ _ h => h) (by rfl) ?_ hHeld ?_
                            rotate_left
                            · intro w' hSw
                              go_simp <;> with_reducible rfl
                            try simp only [Act.put, List.setIfInBounds_toArray, List.set_cons_zero, List.set_cons_succ]
                            refine wpXt (v := ?_) 2 rfl (by kernel_rfl) (fun _ _ _ h => h) (by rfl) ?_ hHeld ?_
                            rotate_left
                            · intro w' hSw
                              go_simp <;> with_reducible rfl
                            try simp only [Act.put, List.setIfInBounds_toArray, List.set_cons_zero, List.set_cons_succ]
                            refine wpXt (v := ?_) 3 rfl (by kernel_rfl) (fun _ _ _ h => h) (by rfl) ?_ hHeld ?_
                            rotate_left
                            · intro w' hSw
                              go_simp <;> with_reducible rfl
                            try simp only [Act.put, List.setIfInBounds_toArray, List.set_cons_zero, List.set_cons_succ]
                            refine wpXt (v := ?_) 4 rfl (by kernel_rfl) (fun _ _ _ h => h) (by rfl) ?_ hHeld ?_
                            rotate_left
                            · intro w' hSw
                              go_simp <;> with_reducible rfl
                            try simp only [Act.put, List.setIfInBounds_toArray, List.set_cons_zero, List.set_cons_succ]
                            refine wpXt (v := ?_) 5 rfl (by kernel_rfl) (fun _ _ _ h => h) (by rfl) ?_ hHeld ?_
                            rotate_left
                            · intro w' hSw
                              go_simp <;> with_reducible rfl
                            try simp only [Act.put, List.setIfInBounds_toArray, List.set_cons_zero, List.set_cons_succ]
                            refine wpXt (v := ?_) 6 rfl (by kernel_rfl) (fun _ _ _ h => h) (by rfl) ?_ hHeld ?_
                            rotate_left
                            · intro w' hSw
                              go_simp <;> with_reducible rfl
                            try simp only [Act.put, List.setIfInBounds_toArray, List.set_cons_zero, List.set_cons_succ]
                            refine wpXt (v := ?_) 7 rfl (by kernel_rfl) (fun _ _ _ h => h) (by rfl) ?_ hHeld ?_
                            rotate_left
                            · intro w' hSw
                              go_simp <;> with_reducible rfl
                            try simp only [Act.put, List.setIfInBounds_toArray, List.set_cons_zero, List.set_cons_succ]
                            refine wpXt (v := ?_) 8 rfl (by kernel_rfl) (fun _ _ _ h => h) (by rfl) ?_ hHeld ?_
                            rotate_left
                            · intro w' hSw
                              go_simp <;> with_reducible rfl
                            try simp only [Act.put, List.setIfInBounds_toArray, List.set_cons_zero, List.set_cons_succ]
                            refine wpXt (v := ?_) 9 rfl (by kernel_rfl) (fun _ _ _ h => h) (by rfl) ?_ hHeld ?_
                            rotate_left
                            · intro w' hSw
                              go_simp <;> with_reducible rfl
                            try simp only [Act.put, List.setIfInBounds_toArray, List.set_cons_zero, List.set_cons_succ]
                            refine wpXt (v := ?_) 10 rfl (by kernel_rfl) (fun _ _ _ h => h) (by rfl) ?_ hHeld ?_
                            rotate_left
                            · intro w' hSw
                              go_simp <;> with_reducible rfl
                            try simp only [Act.put, List.setIfInBounds_toArray, List.set_cons_zero, List.set_cons_succ]
                            refine wpXt (v := ?_) 11 rfl (by kernel_rfl) (fun _ _ _ h => h) (by rfl) ?_ hHeld ?_
                            rotate_left
                            · intro w' hSw
                              go_simp <;> with_reducible rfl
                            try simp only [Act.put, List.setIfInBounds_toArray, List.set_cons_zero, List.set_cons_succ]
                            refine wpXt (v := ?_) 12 rfl (by kernel_rfl) (fun _ _ _ h => h) (by rfl) ?_ hHeld ?_
                            rotate_left
                            · intro w' hSw
                              go_simp <;> with_reducible rfl
                            try simp only [Act.put, List.setIfInBounds_toArray, List.set_cons_zero, List.set_cons_succ]
                            refine wpXt (v := ?_) 13 rfl (by kernel_rfl) (fun _ _ _ h => h) (by rfl) ?_ hHeld ?_
                            rotate_left
                            · intro w' hSw
                              go_simp <;> with_reducible rfl
                            try simp only [Act.put, List.setIfInBounds_toArray, List.set_cons_zero, List.set_cons_succ]
                            refine wpXs 14 rfl (by kernel_rfl) (fun K hK => ?_)
                            go_simp
                            refine HCA.mono ?_
                            rintro e wn ⟨rfl, hbn0⟩
                            have hbn : Below wr.heap.size wr wn := hbd.trans (hbn0.mono hbd.size)
                            refine hK.out _ _ (HSk.out _ hbn) (fun hHeld => ?_)
                            clear hK K
                            try simp only [Act.put, List.setIfInBounds_toArray, List.set_cons_zero, List.set_cons_succ]
                            refine wpXs 15 rfl (by kernel_rfl) (fun K hK => ?_)
                            go_simp
                            refine hK.out _ _ (HSk.out _ hbn) (fun hHeld => ?_)
                            clear hK K
                            try simp only [Act.put, List.setIfInBounds_toArray, List.set_cons_zero, List.set_cons_succ]
                            refine wpAnyX_done (by kernel_rfl) ?_ _
                            have HB6 : Hid (Below W3.heap.size W3 wn) := HA.out.1.trans (hbn.mono HA.out.1.size)
                            have HBX6 : Hid (Below W.heap.size W wn) := HBr.out.trans (hbn.mono HBr.out.size)
                            clear f0 f1 lN hbn hbn0 hbd d1 d2 lP a1 a2 HSk hb9
                            cases rr
                            case false =>
                              have H : Hid (10 = r) := HEB.out _ (List.getElem_mem hltj) HUO.out
                              go_wp2
                              go_ret
                              exact ⟨ret_int H.out, HBW.out.trans (HBX6.out.mono HBW.out.size)⟩
                            case true =>
                              have HA2 : Hid (Below W3.heap.size W3 wn ∧ (gs.take (j + 1)).all (argOk (spU f.blocks n) (idomF f (n * n + 1)) n b ni) = true) := ⟨HB6.out, all_take hltj HA.out.2 HUO.out⟩
                              clear HA
                              go_wp2
                              go_roundw
                              case rel => exact ⟨j + 1, by go_num, by omega, HA2⟩
                              case measure => simp [intOf]; omega
                          · have HU2 : Hid (Below W3.heap.size W3 wr ∧ (es.take (k + 1)).all (edgOk (spU f.blocks n) (idomF f (n * n + 1)) n b ni) = true) := by
                              refine ⟨HA.out.1, HEN.out ?_⟩
                              rw [HEA.out]
                              have := HA.out.2
                              rw [List.take_of_length_le (by omega)] at this
                              exact this
                            clear HA hargs
                            go_wp2
                            go_roundw
                            case rel => exact ⟨k + 1, by go_num, by omega, HU2⟩
                            case measure => simp [intOf]; omega
                      · have HK2 : Hid (Below W.heap.size W wk ∧ ∀ c, c < b + 1 → blkOk (spU f.blocks n) (idomF f (n * n + 1)) n f.blocks c = true) := by
                          refine ⟨HB3.out.trans (HU.out.1.mono HB3.out.size), fun c hc => ?_⟩
                          by_cases e : c = b
                          · rw [e]
                            refine HBOK2.out ?_
                            have := HU.out.2
                            rw [List.take_of_length_le (by omega)] at this
                            exact this
                          · exact HKB.out c (by omega)
                        clear HU
                        go_wp2
                        go_roundw
                        case rel => exact ⟨b + 1, by go_num, by omega, HK2⟩
                        case measure => simp [intOf]; omega
              · have H : Hid (0 = r) := by
                  show _ = _
                  rw [← HRES3.out, if_pos]
                  unfold madeL
                  refine List.all_eq_true.2 fun c hc => ?_
                  have hc' := List.mem_range.1 hc
                  rw [HNB.out] at hc' ⊢
                  exact HK.out.2 c (by omega)
                have HE : Hid (Below w.heap.size w wo) := HBW.out.trans (HK.out.1.mono HBW.out.size)
                clear HK
                go_wp2
                go_ret
                exact ⟨ret_int H.out, HE.out⟩
end Go.Proofs.Ytjbjnndmpheedaa
