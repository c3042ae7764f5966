/-
  The contract of 'predsOf': for each block where its edges come from.
-/
import Derived.Test.YtengmgdnpojfjaaFlowB
import Derived.Test.YtengmgdnpojfjaaOwn
import Derived.Test.YtengmgdnpojfjaaReg2
import Derived.Deep.OwnRows
namespace Go.Proofs.Ytengmgdnpojfjaa
open Go.RowKit
set_option linter.unusedVariables false

/-- Rows of numbers, each in memory of its own. -/
structure PSt (w : World) (R n : Nat) (vs : Nat → Value) (L : List (Nat × Nat)) : Prop where
  row : w.rowIs R 22 n vs
  own : ∀ i, i < n → w.ownsRow (R + 1) 3 1 (vs i) (intoM L i).length ((intoM L i).flatMap cI)
  apart : ∀ i j g, i < n → j < n → i ≠ j → (vs i).ownBlock = some g → (vs j).ownBlock ≠ some g
theorem PSt.below {w w' : World} {R n : Nat} {vs : Nat → Value} {L : List (Nat × Nat)} (h : PSt w R n vs L) (hb : Below w.heap.size w w') : PSt w' R n vs L :=
  ⟨h.row.of_block (hb.block _ h.row.lt), fun i hi => own_keep (h.own i hi) fun g _ _ hg => hb.block g hg, h.apart⟩
theorem intoM_snoc (L : List (Nat × Nat)) (a t i : Nat) : intoM (L ++ [(a, t)]) i = if i = t then intoM L i ++ [(a : Int)] else intoM L i := by
  unfold intoM
  rw [List.filter_append, List.map_append]
  by_cases e : i = t
  · subst e
    simp
  · rw [if_neg e]
    have : ((t == i) = false) := by simp; omega
    simp [this]
theorem PSt.push {w wa w1 : World} {R n t a g cap H : Nat} {vs : Nat → Value} {L : List (Nat × Nat)} (h : PSt w R n vs L) (ht : t < n) (hwa : Below w.heap.size w wa) (hgrow : wa.grownBy w1 (vs t).ownBlock)
    (hown : w1.ownsRow (R + 1) 3 1 (.slice (some ⟨g, 0, none⟩) ((intoM L t).length + 1) cap) ((intoM L t).length + 1) ((intoM L t).flatMap cI ++ [.int .i64 a])) (hat : (vs t).ownBlock = some g ∨ g = H) (hH : w.heap.size ≤ H) :
    PSt (w1.setCell ⟨R, t, none⟩ (.slice (some ⟨g, 0, none⟩) ((intoM L t).length + 1) cap)) R n (fun i => if i = t then .slice (some ⟨g, 0, none⟩) ((intoM L t).length + 1) cap else vs i) (L ++ [(a, t)]) := by
  have hza := hwa.size
  have kept : ∀ b, b < w.heap.size → some b ≠ (vs t).ownBlock → w1.heap[b]? = w.heap[b]? := fun b hb hne => (hgrow.block b (by omega) hne).trans (hwa.block b hb)
  have hRv : some R ≠ (vs t).ownBlock := fun e => by have := own_base (h.own t ht) e.symm; omega
  have hst : ∀ (b : Nat), b ≠ R → (w1.setCell ⟨R, t, none⟩ (.slice (some ⟨g, 0, none⟩) ((intoM L t).length + 1) cap)).heap[b]? = w1.heap[b]? := fun b hb => Below.heap_setCell _ _ _ _ hb
  have newg : ∀ j, j < n → j ≠ t → (vs j).ownBlock ≠ some g := by
    intro j hj hjt e
    rcases hat with h1 | h1
    · exact h.apart t j g ht hj (fun e => hjt e.symm) h1 e
    · have := own_base (h.own j hj) e; omega
  refine ⟨?_, fun i hi => ?_, fun i j g' hi hj hij hg => ?_⟩
  · exact (h.row.of_block (kept R h.row.lt hRv)).set t _
  · rw [intoM_snoc]
    show World.ownsRow _ _ _ _ (if i = t then _ else vs i) _ _
    by_cases e : i = t
    · subst e
      rw [if_pos rfl, if_pos rfl, List.length_append, List.length_singleton, List.flatMap_append]
      refine own_keep hown fun b hb h1 h2 => hst b (by omega)
    · rw [if_neg e, if_neg e]
      refine own_keep (h.own i hi) fun b hb h1 h2 => (hst b (by omega)).trans (kept b h2 fun e2 => ?_)
      exact h.apart i t b hi ht e hb e2.symm
  · show (if j = t then _ else vs j).ownBlock ≠ some g'
    have hg' : (if i = t then Value.slice (some ⟨g, 0, none⟩) ((intoM L t).length + 1) cap else vs i).ownBlock = some g' := hg
    by_cases e : i = t
    · rw [if_pos e] at hg'
      rw [if_neg (by omega)]
      simp [Value.ownBlock] at hg'
      subst hg'
      exact newg j hj (by omega)
    · rw [if_neg e] at hg'
      by_cases e2 : j = t
      · rw [if_pos e2]
        intro e3
        simp [Value.ownBlock] at e3
        subst e3
        exact newg i hi e hg'
      · rw [if_neg e2]
        exact h.apart i j g' hi hj hij hg'
theorem PSt.sl {w : World} {R n : Nat} {vs : Nat → Value} {L : List (Nat × Nat)} (h : PSt w R n vs L) (hL : L.length ≤ 1000000) (hn : n ≤ 1000) : SlOf w 1 (RRow w) (.slice (some ⟨R, 0, none⟩) n n) ((List.range n).map (intoM L)) := by
  refine ⟨_, n, by simp, by simp; unfold longest; omega, Or.inr ⟨R, 0, rfl, fun i hi => ?_⟩⟩
  have hi' : i < n := by simpa using hi
  refine ⟨[vs i], rfl, ⟨vs i, rfl, ?_⟩, fun j hj => ?_⟩
  · rw [List.getElem_map, List.getElem_range]
    refine own_ints _ (h.own i hi') ?_
    unfold intoM longest
    rw [List.length_map]
    have := List.length_filter_le (fun p : Nat × Nat => p.2 == i) L
    omega
  · have : j = 0 := by simp at hj; exact hj
    subst this
    simp only [Nat.mul_one, Nat.add_zero, Nat.zero_add, List.getElem_cons_zero]
    exact h.row.cell hi'

theorem pairs_succ (bs : List Blk) (k : Nat) : pairsUpto bs (k + 1) = pairsUpto bs k ++ (succM bs k).map fun t => (k, t) := by
  unfold pairsUpto
  rw [List.range_succ, List.flatMap_append]
  simp
theorem succM_at (bs : List Blk) (k : Nat) (h : k < bs.length) : succM bs k = bs[k].edges.map fun e => e.block.toNat := by
  unfold succM
  rw [List.getD_eq_getElem?_getD, List.getElem?_eq_getElem h]
  rfl
theorem map_take_succ {α β : Type} (f : α → β) (l : List α) (j : Nat) (h : j < l.length) : (l.take (j + 1)).map f = (l.take j).map f ++ [f l[j]] := by
  rw [List.take_succ_eq_append_getElem h, List.map_append]
  rfl

theorem infoFI : (Try.prog.info? 3).map (fun i => (i.zero, i.size, i.bytes)) = some (some (.int .i64 0), 1, 8) := by kernel_rfl
set_option maxHeartbeats 4000000 in
theorem predsOf_any (bs : List Blk) (ab : Option Addr) (cb : Nat) (w : World) (hb : SlOf w 3 (RBlk w) (.slice ab bs.length cb) bs) (hn : bs.length ≤ 1000) (hrange : ∀ b ∈ bs, ∀ e ∈ b.edges, 0 ≤ e.block ∧ e.block < (bs.length : Int)) (hfew : (pairsM bs).length ≤ 100000) :
    Calls Try.prog 33 #[.slice ab bs.length cb] w fun e w' => ∃ vs, e = .returned (.slice (some ⟨w.heap.size, 0, none⟩) bs.length bs.length) ∧ PSt w' w.heap.size bs.length vs (pairsM bs) ∧ Below w.heap.size w w' := by
  obtain ⟨i3, hi3, hz3, hz31, hz32⟩ := info_parts infoFI
  have hmk := run_make_row' (P := Try.prog) 57 22 (.slice none 0 0) 24 Try.underlying57 (by kernel_rfl) rfl .i64 .i64 bs.length (by omega) (by omega)
  obtain ⟨W, hW⟩ : ∃ W, W = w.alloc (.cells (madeCells #[.slice none 0 0] bs.length) 22) := ⟨_, rfl⟩
  have hbw : Below w.heap.size w W := by rw [hW]; exact (Below.refl _ _).alloc (Nat.le_refl _) _
  have hst : PSt W w.heap.size bs.length (fun _ => .slice none 0 0) (pairsUpto bs 0) := by
    rw [hW]
    refine ⟨World.rowIs_made _ _ _ _, fun i hi => ?_, fun i j g _ _ _ h => by simp [Value.ownBlock] at h⟩
    exact ⟨rfl, Or.inl ⟨rfl, rfl⟩⟩
  have HW : Hid (W = w.alloc (.cells (madeCells #[.slice none 0 0] bs.length) 22)) := hW
  have HS0 : Hid (PSt W w.heap.size bs.length (fun _ => .slice none 0 0) (pairsUpto bs 0) ∧ Below w.heap.size w W) := ⟨hst, hbw⟩
  have HB : Hid (SlOf w 3 (RBlk w) (.slice ab bs.length cb) bs) := hb
  have HR : Hid (∀ b ∈ bs, ∀ e ∈ b.edges, 0 ≤ e.block ∧ e.block < (bs.length : Int)) := hrange
  have HFEW : Hid ((pairsM bs).length ≤ 100000) := hfew
  clear hW hst hbw hb hrange hfew
  go_enter Try.func33, Try.ntmps33
  go_upto_region 2 with fail
  rw [← HW.out]
  go_wp2_with fail
  go_loopw [13] (fun i wr => ∃ (k : Nat) (vs : Nat → Value), k ≤ bs.length ∧ i = .int .i64 k ∧ Hid (PSt wr w.heap.size bs.length vs (pairsUpto bs k) ∧ Below w.heap.size w wr)) (fun i _ => bs.length - (intOf i).toNat)
  case atStart => exact ⟨0, _, Nat.zero_le _, rfl, HS0⟩
  case round =>
    obtain ⟨k, vs, hk, rfl, HI⟩ := hrel
    by_cases hlt : k < bs.length
    · obtain ⟨b5, off5, cs, rfl, hcl5, ⟨vp, vi, ve, rfl, hp, hi, he0⟩, hc⟩ := HB.out.at k hlt
      obtain ⟨ae, ce, rfl, le⟩ := he0.out
      obtain ⟨ap, cp, rfl, _⟩ := hp.out
      obtain ⟨ai, ci, rfl, _⟩ := hi.out
      unfold longest at le
      have hb0 := HI.out.2
      have c0 := (hb0.cell (p := ⟨b5, off5 + k * 3 + 0, none⟩) (block_lt (hc 0 (by simp)))).trans (hc 0 (by simp))
      have c1 := (hb0.cell (p := ⟨b5, off5 + k * 3 + 1, none⟩) (block_lt (hc 1 (by simp)))).trans (hc 1 (by simp))
      have c2 := (hb0.cell (p := ⟨b5, off5 + k * 3 + 2, none⟩) (block_lt (hc 2 (by simp)))).trans (hc 2 (by simp))
      simp at c0 c1 c2
      have hlen : (pairsUpto bs (k + 1)).length ≤ 100000 := by
        have h1 := HFEW.out
        have h2 : (pairsUpto bs (k + 1)).length ≤ (pairsUpto bs bs.length).length := by
          have mono : ∀ d, (pairsUpto bs (k + 1)).length ≤ (pairsUpto bs (k + 1 + d)).length := by
            intro d
            induction d with
            | zero => exact Nat.le_refl _
            | succ d ih =>
              have e := pairs_succ bs (k + 1 + d)
              rw [← Nat.add_assoc, e, List.length_append]
              omega
          have := mono (bs.length - (k + 1))
          rw [show k + 1 + (bs.length - (k + 1)) = bs.length by omega] at this
          exact this
        exact Nat.le_trans h2 h1
      have hrk := HR.out bs[k] (List.getElem_mem hlt)
      have HPS : Hid (pairsUpto bs (k + 1) = pairsUpto bs k ++ (bs[k].edges.map fun e => e.block.toNat).map fun t => (k, t)) := by
        show _ = _
        rw [pairs_succ, succM_at _ _ hlt]
      clear hc hcl5 hp hi
      generalize bs[k].params.length = np at *
      generalize bs[k].instrs.length = ni at *
      generalize bs[k].edges = es at *
      have HE : Hid (SlOf w 2 (REdg w) (.slice ae es.length ce) es) := he0
      have HRK : Hid (∀ e ∈ es, 0 ≤ e.block ∧ e.block < (bs.length : Int)) := hrk
      rw [HPS.out, List.length_append, List.length_map, List.length_map] at hlen
      have hz0 := HI.out.1.row.lt
      have HI2 : Hid (PSt (wr.alloc (.cells #[.slice ap np cp, .slice ai ni ci, .slice ae es.length ce] 50)) w.heap.size bs.length vs (pairsUpto bs k) ∧ Below w.heap.size w (wr.alloc (.cells #[.slice ap np cp, .slice ai ni ci, .slice ae es.length ce] 50))) := ⟨HI.out.1.below ((Below.refl _ _).alloc (Nat.le_refl _) _), hb0.alloc hb0.size _⟩
      clear he0 hrk hb0 HI
      go_wp2_with fail
      go_loopw [21] (fun i w2 => ∃ (j : Nat) (us : Nat → Value), j ≤ es.length ∧ i = .int .i64 j ∧ Hid (PSt w2 w.heap.size bs.length us (pairsUpto bs k ++ ((es.take j).map fun e => e.block.toNat).map fun t => (k, t)) ∧ Below w.heap.size w w2)) (fun i _ => es.length - (intOf i).toNat)
      case atStart => exact ⟨0, vs, Nat.zero_le _, rfl, by simpa using HI2⟩
      case round =>
        obtain ⟨j, us, hj, rfl, HJ⟩ := hrel
        by_cases hjl : j < es.length
        · obtain ⟨b6, off6, cs, rfl, hcl6, ⟨va, rfl, hva⟩, hc⟩ := HE.out.at j hjl
          obtain ⟨aa, ca, rfl, _⟩ := hva.out
          have hb0 := HJ.out.2
          have e0 := (hb0.cell (p := ⟨b6, off6 + j * 2 + 0, none⟩) (block_lt (hc 0 (by simp)))).trans (hc 0 (by simp))
          have e1 := (hb0.cell (p := ⟨b6, off6 + j * 2 + 1, none⟩) (block_lt (hc 1 (by simp)))).trans (hc 1 (by simp))
          simp at e0 e1
          have hrj := HRK.out es[j] (List.getElem_mem hjl)
          have HPJ : Hid (pairsUpto bs k ++ ((es.take (j + 1)).map fun e => e.block.toNat).map (fun t => (k, t)) = (pairsUpto bs k ++ ((es.take j).map fun e => e.block.toNat).map fun t => (k, t)) ++ [(k, es[j].block.toNat)]) := by
            show _ = _
            rw [map_take_succ _ _ _ hjl, List.map_append, List.append_assoc]
            rfl
          have hll : (pairsUpto bs k ++ ((es.take j).map fun e => e.block.toNat).map fun t => (k, t)).length ≤ 100000 := by
            rw [List.length_append, List.length_map, List.length_map, List.length_take]
            omega
          clear hc hcl6 hva
          generalize es[j].args.length = na at *
          generalize es[j].block = t at *
          generalize pairsUpto bs k ++ ((es.take j).map fun e => e.block.toNat).map (fun t => (k, t)) = L at *
          have ht0 := hrj.1
          have ht1 := hrj.2
          have htn : t.toNat < bs.length := by omega
          have hil : (intoM L t.toNat).length ≤ 100000 := by
            unfold intoM
            rw [List.length_map]
            have := List.length_filter_le (fun p : Nat × Nat => p.2 == t.toNat) L
            omega
          go_upto_region 8 with fail
          obtain ⟨wn, hwn⟩ : ∃ wn, wn = wr.alloc (.cells #[.int .i64 t, .slice aa na ca] 47) := ⟨_, rfl⟩
          have hbn : Below wr.heap.size wr wn := by rw [hwn]; exact (Below.refl _ _).alloc (Nat.le_refl _) _
          have x0 : wn.cell? ⟨wr.heap.size, 0, none⟩ = some (.int .i64 t) := by rw [hwn]; simp
          have lX : wr.heap.size < wn.heap.size := by rw [hwn]; simp
          rw [← hwn]
          clear hwn
          have hP := HJ.out.1.below hbn
          have hbn' : Below w.heap.size w wn := HJ.out.2.trans (hbn.mono HJ.out.2.size)
          have r0 := hP.row.cell htn
          have rz := hP.row.frozen t.toNat
          have rl := hP.row.lt
          have own := hP.own t.toNat htn
          have HP : Hid (PSt wn w.heap.size bs.length us L) := hP
          generalize hv : us t.toNat = v at *
          have nR : some w.heap.size ≠ v.ownBlock := fun e => by have := own_base own e.symm; omega
          have nX : some wr.heap.size ≠ v.ownBlock := fun e => by
            have h1 := HJ.out.1.own t.toNat htn
            rw [hv] at h1
            have := own_base h1 e.symm
            omega
          have oA := (own.alloc (.cells #[.int .i64 k] 3)).drew
          have LR := old_cell w.heap.size
          have LX := old_cell wr.heap.size
          have cR : ((wn.alloc (.cells #[.int .i64 k] 3)).drew).cell? ⟨w.heap.size, t.toNat, none⟩ = some v := (LR _ _ _ rl).trans r0
          have cZ : ((wn.alloc (.cells #[.int .i64 k] 3)).drew).frozen? ⟨w.heap.size, t.toNat, none⟩ = false := (frozen?_alloc_cells _ _ _ _).trans rz
          have cX : ((wn.alloc (.cells #[.int .i64 k] 3)).drew).cell? ⟨wr.heap.size, 0, none⟩ = some (.int .i64 t) := (LX _ _ _ lX).trans x0
          have lR' : w.heap.size < ((wn.alloc (.cells #[.int .i64 k] 3)).drew).heap.size := by simp; omega
          have lX' : wr.heap.size < ((wn.alloc (.cells #[.int .i64 k] 3)).drew).heap.size := by simp; omega
          have HN : Hid (∀ j u, ([.int .i64 k] : List Value)[j]? = some u → ((wn.alloc (.cells #[.int .i64 k] 3)).drew).cell? ((⟨wn.heap.size, 0, none⟩ : Addr).add j) = some u) := World.news_of_block (cs := #[.int .i64 k]) (t := 3) (fr := (0, 0)) (heap_alloc_new wn _)
          have h1c : ∀ u ∈ ([.int .i64 k] : List Value), u.oneCell' = true := by intro u hu; simp at hu; subst hu; rfl
          have HV : Hid (us t.toNat = v) := hv
          have HB2 : Hid (Below w.heap.size w wn) := hbn'
          clear hv hP hbn' hbn hrj e0 e1 c0 c1 c2 hb0 HJ
          refine wp_region_X (fun w' => w'.cell? ⟨wr.heap.size, 0, none⟩ = some (.int .i64 t) ∧ w'.cell? ⟨w.heap.size, t.toNat, none⟩ = some v) 12 (by kernel_rfl) ⟨x0, r0⟩ (fun hHeld => ?_)
          refine wpX_takeg0 (v := ?_) (by kernel_rfl) (fun _ _ _ h => h) (by rfl) ?_ hHeld ?_
          rotate_left
          · intro w' hSw
            go_simp <;> with_reducible rfl
          try simp only [Act.put, List.setIfInBounds_toArray, List.set_cons_zero, List.set_cons_succ]
          refine wpX_takeg1 (v := ?_) (by kernel_rfl) (fun _ _ _ h => h) (by rfl) ?_ hHeld ?_
          rotate_left
          · intro w' hSw
            go_simp <;> with_reducible rfl
          try simp only [Act.put, List.setIfInBounds_toArray, List.set_cons_zero, List.set_cons_succ]
          refine wpX_takeg2 (v := ?_) (by kernel_rfl) (fun _ _ _ h => h) (by rfl) ?_ hHeld ?_
          rotate_left
          · intro w' hSw
            go_simp <;> with_reducible rfl
          try simp only [Act.put, List.setIfInBounds_toArray, List.set_cons_zero, List.set_cons_succ]
          refine wpX_takeg3 (v := ?_) (by kernel_rfl) (fun _ _ _ h => h) (by rfl) ?_ hHeld ?_
          rotate_left
          · intro w' hSw
            go_simp <;> with_reducible rfl
          try simp only [Act.put, List.setIfInBounds_toArray, List.set_cons_zero, List.set_cons_succ]
          refine wpX_takeg4 (v := ?_) (by kernel_rfl) (fun _ _ _ h => h) (by rfl) ?_ hHeld ?_
          rotate_left
          · intro w' hSw
            go_simp <;> with_reducible rfl
          try simp only [Act.put, List.setIfInBounds_toArray, List.set_cons_zero, List.set_cons_succ]
          refine wpX_takeg5 (v := ?_) (by kernel_rfl) (fun _ _ _ h => h) (by rfl) ?_ hHeld ?_
          rotate_left
          · intro w' hSw
            go_simp <;> with_reducible rfl
          try simp only [Act.put, List.setIfInBounds_toArray, List.set_cons_zero, List.set_cons_succ]
          refine wpX_takeg6 (v := ?_) (by kernel_rfl) (fun _ _ _ h => h) (by rfl) ?_ hHeld ?_
          rotate_left
          · intro w' hSw
            go_simp <;> with_reducible rfl
          try simp only [Act.put, List.setIfInBounds_toArray, List.set_cons_zero, List.set_cons_succ]
          refine wpX_takeg7 (v := ?_) (by kernel_rfl) (fun _ _ _ h => h) (by rfl) ?_ hHeld ?_
          rotate_left
          · intro w' hSw
            go_simp <;> with_reducible rfl
          try simp only [Act.put, List.setIfInBounds_toArray, List.set_cons_zero, List.set_cons_succ]
          refine wpX_takeg8 (v := ?_) (by kernel_rfl) (fun _ _ _ h => h) (by rfl) ?_ hHeld ?_
          rotate_left
          · intro w' hSw
            go_simp <;> with_reducible rfl
          try simp only [Act.put, List.setIfInBounds_toArray, List.set_cons_zero, List.set_cons_succ]
          refine wpX_step9 (by kernel_rfl) (fun K hK => ?_)
          go_simp
          refine hK.out _ _ ⟨cX, cR⟩ (fun hHeld => ?_)
          clear hK K
          try simp only [Act.put, List.setIfInBounds_toArray, List.set_cons_zero, List.set_cons_succ]
          refine wpX_step10 (by kernel_rfl) (fun K hK => ?_)
          refine step_append_lies _ (by rfl) _ _ _ (by rfl) (w.heap.size + 1) 3 i3 _ 1 8 Try.underlying22 hi3 hz3 hz31 hz32 rfl (by omega) v (intoM L t.toNat).length _ (by rfl) oA ⟨wn.heap.size, 0, none⟩ 1 1 [.int .i64 k] (by rfl) (by rfl) HN.out h1c (by omega) (by unfold maxLen; omega) (by omega) (by simp; omega) (wn.heap.size + 1) (by simp) ?_
          intro gg cap2 wb2 hown1 hgrow hat2 hlt2
          have r0' := (hgrow.cell_far _ lR' nR).trans cR
          have rz' := (hgrow.frozen_far _ lR' nR).trans cZ
          have x0' := (hgrow.cell_far _ lX' nX).trans cX
          refine hK.out _ _ ⟨x0', r0'⟩ (fun hHeld => ?_)
          clear hK K
          try simp only [Act.put, List.setIfInBounds_toArray, List.set_cons_zero, List.set_cons_succ]
          refine wpX_takeg11 (v := ?_) (by kernel_rfl) (fun _ _ _ h => h) (by rfl) ?_ hHeld ?_
          rotate_left
          · intro w' hSw
            go_simp <;> with_reducible rfl
          try simp only [Act.put, List.setIfInBounds_toArray, List.set_cons_zero, List.set_cons_succ]
          refine wpX_last12 (by kernel_rfl) rfl (by kernel_rfl) (fun K hK => ?_)
          go_simp
          refine hK.out _ _ ?_
          clear hK K
          go_wp2
          go_roundw
          case rel =>
            have hp2 := HP.out.push htn (((Below.refl _ _).alloc (Nat.le_refl _) (.cells #[.int .i64 k] 3)).drew) (by rw [HV.out]; exact hgrow) hown1 (H := wn.heap.size + 1) (by rw [HV.out]; exact hat2) (by omega)
            refine ⟨j + 1, fun i => if i = t.toNat then .slice (some ⟨gg, 0, none⟩) ((intoM L t.toNat).length + 1) cap2 else us i, by omega, by go_num, ?_, ?_⟩
            · rw [HPJ.out]; exact hp2
            · exact Below.setCell (((HB2.out.alloc HB2.out.size _).drew).grown hgrow (by simp; omega) (fun h hh => by have := own_base own hh; omega)) (by simp) _
          case measure => simp [intOf]; omega
        · have HJ2 : Hid (PSt wr w.heap.size bs.length us (pairsUpto bs (k + 1)) ∧ Below w.heap.size w wr) := by
            refine ⟨?_, HJ.out.2⟩
            rw [HPS.out]
            have := HJ.out.1
            rw [List.take_of_length_le (by omega)] at this
            exact this
          clear HJ c0 c1 c2
          go_wp2
          go_roundw
          case rel => exact ⟨k + 1, us, by omega, by go_num, HJ2⟩
          case measure => simp [intOf]; omega
    · have hk2 : k = bs.length := by omega
      have HI2 : Hid (PSt wr w.heap.size bs.length vs (pairsM bs) ∧ Below w.heap.size w wr) := by
        have h := HI.out
        rw [hk2] at h
        exact h
      clear HI hk2
      go_wp2
      go_ret
      exact ⟨vs, rfl, HI2.out.1, HI2.out.2⟩
end Go.Proofs.Ytengmgdnpojfjaa
