/-
  The contracts of 'flow.Check' and 'flow.Dominators'.
  A check, by computing, of what a plain function has whose shape is right.
-/
import Derived.Test.YtanhfkpphdbaaaaF5
namespace Go.Proofs.Ytanhfkpphdbaaaa
open Go.RowKit
set_option linter.unusedVariables false

def depthF (f : Fn) (K : Nat) : Nat → Int := depthM (predL (predsL f.blocks)) (idomF f K) f.blocks.length
/-- The tree of a function lies there. -/
def TreeAt (f : Fn) (K lo : Nat) (w : World) (v : Value) : Prop := ∃ g ib db co, v = .agg #[.slice (some ⟨g, 0, none⟩) f.blocks.length co, .slice (some ⟨ib, 0, none⟩) f.blocks.length f.blocks.length, .slice (some ⟨db, 0, none⟩) f.blocks.length f.blocks.length] ∧ (lo ≤ g ∧ f.blocks.length ≤ co) ∧ lo ≤ ib ∧ lo ≤ db ∧
  SlOf w 1 RInt (.slice (some ⟨g, 0, none⟩) f.blocks.length co) (orderM f.blocks) ∧ SlOf w 1 RInt (.slice (some ⟨ib, 0, none⟩) f.blocks.length f.blocks.length) (fnL f.blocks.length (idomF f K)) ∧ SlOf w 1 RInt (.slice (some ⟨db, 0, none⟩) f.blocks.length f.blocks.length) (fnL f.blocks.length (depthF f K))

theorem examine_is (f : Fn) (K : Nat) (m0 m1 : Int) (av ab : Option Addr) (cv cb : Nat) (r : Int) (hr : flowE f m0 m1 K = r) (w : World) (hv : SlOf w 1 RInt (.slice av f.values.length cv) f.values) (hb : SlOf w 3 (RBlk w) (.slice ab f.blocks.length cb) f.blocks) (hin : shapeErr f m0 m1 = 0 → FlowIn f K) :
    Calls Try.prog 26 #[.agg #[.slice av f.values.length cv, .slice ab f.blocks.length cb], .agg #[.int .i64 m0, .int .i64 m1]] w fun e w' => ∃ a b c n1 n2 n3 c1 c2 c3, e = .returned (.tuple #[.agg #[.slice a n1 c1, .slice b n2 c2, .slice c n3 c3], .int .i64 r]) ∧ (r = 0 → GraphAt f K w.heap.size w' (.agg #[.slice a n1 c1, .slice b n2 c2, .slice c n3 c3])) ∧ Below w.heap.size w w' := by
  rw [← hr]
  refine (examine_any f K m0 m1 av ab cv cb w hv hb hin).mono ?_
  rintro e w' ⟨v, h1, ⟨a, b, c, n1, n2, n3, c1, c2, c3, rfl⟩, h2, h3⟩
  exact ⟨a, b, c, n1, n2, n3, c1, c2, c3, h1, h2, h3⟩
theorem depths_is (n M : Nat) (rank idom : Nat → Int) (preds : List (List Int)) (ap ao ad : Option Addr) (cp co cd : Nat) (w : World) (hM : w.heap.size = M) (hp : SlOf w 1 (RRow w) (.slice ap n cp) preds) (hpl : preds.length = n) (hin : ∀ t : Nat, ∀ p ∈ preds.getD t [], 0 ≤ p ∧ p < (n : Int))
    (hid : SlOf w 1 RInt (.slice ad n cd) (fnL n idom)) (hk : DomOk n rank idom) (hn : n ≤ 1000) :
    Calls Try.prog 27 #[.agg #[.slice ap n cp, .slice ao n co, .slice ad n cd]] w fun e w' => e = .returned (.slice (some ⟨M + 1, 0, none⟩) n n) ∧ w'.rowIs (M + 1) 3 n (fun i => .int .i64 (depthM (predL preds) idom n i)) ∧ Below w.heap.size w w' := by
  subst hM; exact depths_any n rank idom preds ap ao ad cp co cd w hp hpl hin hid hk hn
theorem sl_kept {w w' : World} {n cap : Nat} {a : Option Addr} {l : List Int} (h : SlOf w 1 RInt (.slice a n cap) l) (he : ∀ b, b < w.heap.size → (∃ off, a = some ⟨b, off, none⟩) → w'.heap[b]? = w.heap[b]?) : SlOf w' 1 RInt (.slice a n cap) l := by
  obtain ⟨a', c, hv, hl, h⟩ := h
  refine ⟨a', c, hv, hl, h.imp id ?_⟩
  rintro ⟨b, off, ha, h⟩
  simp only [Value.slice.injEq] at hv
  refine ⟨b, off, ha, fun i hi => ?_⟩
  obtain ⟨cs, h1, h2, h3⟩ := h i hi
  refine ⟨cs, h1, h2, fun j hj => ?_⟩
  have hlt := block_lt (h3 j hj)
  exact (World.cell?_of_block (he b hlt ⟨off, hv.1.trans ha⟩)).trans (h3 j hj)

set_option maxRecDepth 4000 in
set_option maxHeartbeats 4000000 in
theorem dominators_any (f : Fn) (K : Nat) (m0 m1 : Int) (av ab : Option Addr) (cv cb : Nat) (r : Int) (hr : flowE f m0 m1 K = r) (w : World) (hv : SlOf w 1 RInt (.slice av f.values.length cv) f.values) (hb : SlOf w 3 (RBlk w) (.slice ab f.blocks.length cb) f.blocks) (hin : shapeErr f m0 m1 = 0 → FlowIn f K) :
    Calls Try.prog 14 #[.agg #[.slice av f.values.length cv, .slice ab f.blocks.length cb], .agg #[.int .i64 m0, .int .i64 m1]] w fun e w' => ∃ v, e = .returned (.tuple #[v, .int .i64 r]) ∧ (r = 0 → TreeAt f K w.heap.size w' v) ∧ (r ≠ 0 → v = .agg #[.slice none 0 0, .slice none 0 0, .slice none 0 0]) ∧ Below w.heap.size w w' := by
  obtain ⟨W, hW⟩ : ∃ W, W = ((w.alloc (.cells #[.slice av f.values.length cv, .slice ab f.blocks.length cb] 32)).alloc (.cells #[.int .i64 m0, .int .i64 m1] 25)).alloc (.cells #[.slice none 0 0, .slice none 0 0, .slice none 0 0] 50) := ⟨_, rfl⟩
  have hz : W.heap.size = w.heap.size + 1 + 1 + 1 := by rw [hW]; simp
  have hbw : Below w.heap.size w W := by
    rw [hW]
    repeat (first | exact Below.refl _ _ | refine Below.alloc ?_ (by simp; try omega) _)
  have r2 : W.rowIs (w.heap.size + 1 + 1) 50 3 (fun _ => .slice none 0 0) := by
    rw [hW]
    have h := World.rowIs_alloc ((w.alloc (.cells #[.slice av f.values.length cv, .slice ab f.blocks.length cb] 32)).alloc (.cells #[.int .i64 m0, .int .i64 m1] 25)) #[.slice none 0 0, .slice none 0 0, .slice none 0 0] 50 (fun _ => .slice none 0 0) fun i hi => by
      simp at hi
      match i, hi with | 0, _ => rfl | 1, _ => rfl | 2, _ => rfl
    have e : ((w.alloc (.cells #[.slice av f.values.length cv, .slice ab f.blocks.length cb] 32)).alloc (.cells #[.int .i64 m0, .int .i64 m1] 25)).heap.size = w.heap.size + 1 + 1 := by simp
    rw [e] at h
    exact h
  have HW : Hid (W = ((w.alloc (.cells #[.slice av f.values.length cv, .slice ab f.blocks.length cb] 32)).alloc (.cells #[.int .i64 m0, .int .i64 m1] 25)).alloc (.cells #[.slice none 0 0, .slice none 0 0, .slice none 0 0] 50)) := hW
  have HC := examine_is f K m0 m1 av ab cv cb r hr W (hv.below hbw fun _ _ h => h) (hb.below hbw (RBlk.below hbw)) hin
  have HR : Hid (∀ w', Below W.heap.size W w' → w'.rowIs (w.heap.size + 1 + 1) 50 3 (fun _ => .slice none 0 0) ∧ Below w.heap.size w w') := fun w' hh => ⟨r2.of_block (hh.block _ r2.lt), hbw.trans (hh.mono hbw.size)⟩
  have HFI : Hid (r = 0 → FlowIn f K ∧ f.blocks.length ≤ (orderM f.blocks).length) := fun h0 => by
    have hs : shapeErr f m0 m1 = 0 := by
      by_cases hs : shapeErr f m0 m1 = 0
      · exact hs
      · unfold flowE at hr
        rw [if_pos hs] at hr
        omega
    refine ⟨hin hs, ?_⟩
    by_cases hl : (orderM f.blocks).length < f.blocks.length
    · unfold flowE at hr
      rw [if_neg (by simp [hs]), if_pos hl] at hr
      omega
    · omega
  have HZ : Hid (W.heap.size = w.heap.size + 1 + 1 + 1) := hz
  have a0 : W.cell? ⟨w.heap.size, 0, none⟩ = some (.slice av f.values.length cv) := by
    rw [hW]
    exact (World.cell?_alloc_lt _ _ _ (by simp; omega)).trans ((World.cell?_alloc_lt _ _ _ (by simp)).trans (by simp))
  clear hW hv hb hin hr r2 hz hbw a0
  go_enter Try.func14, Try.ntmps14
  go_wp2_with fail
  rw [← HW.out]
  refine HC.mono ?_
  clear HC HW
  rintro e w1 ⟨a, b, c, n1, n2, n3, c1, c2, c3, rfl, hG, hb1⟩
  by_cases hr : r = 0
  · have q : (r != 0) = false := by simp [hr]
    obtain ⟨pa, g, ib, co, hv, hgW, hiW, hp, ho, hd⟩ := hG hr
    simp only [Value.agg.injEq, Array.mk.injEq, List.cons.injEq, Value.slice.injEq, and_true] at hv
    obtain ⟨⟨rfl, rfl, rfl⟩, ⟨rfl, rfl, rfl⟩, ⟨rfl, rfl, rfl⟩⟩ := hv
    have hYY : w.heap.size + 1 + 1 < w1.heap.size := by have := HZ.out; have := hb1.size; omega
    have hFI := HFI.out hr
    have hGR := hFI.1.gr hFI.2
    have hdom : DomOk f.blocks.length (rankM (orderM f.blocks)) (idomF f K) := rounds_domOk hGR.1 hGR.2
    have lb := hFI.1.nb
    have hH : Hid (r = 0) := hr
    go_upto_region 4 with fail
    obtain ⟨Y, hY⟩ : ∃ Y, Y = w1.heap.size := ⟨_, rfl⟩
    obtain ⟨D, hD⟩ : ∃ D, D = w1.alloc (.cells #[.slice (some ⟨pa, 0, none⟩) f.blocks.length f.blocks.length, .slice (some ⟨g, 0, none⟩) f.blocks.length c2, .slice (some ⟨ib, 0, none⟩) f.blocks.length f.blocks.length] 72) := ⟨_, rfl⟩
    have hDb : Below w1.heap.size w1 D := by rw [hD]; exact (Below.refl _ _).alloc (Nat.le_refl _) _
    have y0 : D.cell? ⟨Y, 0, none⟩ = some (.slice (some ⟨pa, 0, none⟩) f.blocks.length f.blocks.length) := by rw [hD, hY]; simp
    have y1 : D.cell? ⟨Y, 1, none⟩ = some (.slice (some ⟨g, 0, none⟩) f.blocks.length c2) := by rw [hD, hY]; simp
    have y2 : D.cell? ⟨Y, 2, none⟩ = some (.slice (some ⟨ib, 0, none⟩) f.blocks.length f.blocks.length) := by rw [hD, hY]; simp
    rw [← hD, ← hY]
    rw [← hY] at hYY
    have hYD : Y < D.heap.size := by rw [hD, hY]; simp
    have hpD := hp.below hDb (RRow.below hDb)
    have hoD := ho.below hDb fun _ _ h => h
    have hdD := hd.below hDb fun _ _ h => h
    have hWD : Below W.heap.size W D := hb1.trans (hDb.mono hb1.size)
    have HODD : Hid (SlOf w1 1 RInt (.slice (some ⟨g, 0, none⟩) f.blocks.length c2) (orderM f.blocks) ∧ SlOf w1 1 RInt (.slice (some ⟨ib, 0, none⟩) f.blocks.length f.blocks.length) (fnL f.blocks.length (idomF f K)) ∧ Below w1.heap.size w1 D ∧ Below W.heap.size W w1) := ⟨ho, hd, hDb, hb1⟩
    obtain ⟨M, hM⟩ : ∃ M, D.drew.heap.size = M := ⟨_, rfl⟩
    have hYM : Y < M := by rw [← hM]; exact hYD
    have hb0 : Below D.heap.size D D.drew := (Below.refl _ _).drew
    have HCD := depths_is f.blocks.length M _ _ (predsL f.blocks) (some ⟨pa, 0, none⟩) (some ⟨g, 0, none⟩) (some ⟨ib, 0, none⟩) f.blocks.length c2 f.blocks.length D.drew hM (hpD.below hb0 (RRow.below hb0)) hGR.1.len hGR.1.inn (hdD.below hb0 fun _ _ h => h) hdom lb
    have HME : Hid (D.heap.size = M) := hM
    clear hY hD hp ho hd hDb hpD hoD hdD hGR hdom hFI hM hb0 hr hG hb1
    have HS : Hid (∀ w', Below D.heap.size D w' → (fun w' => w'.cell? ⟨Y, 0, none⟩ = some (.slice (some ⟨pa, 0, none⟩) f.blocks.length f.blocks.length) ∧ w'.cell? ⟨Y, 1, none⟩ = some (.slice (some ⟨g, 0, none⟩) f.blocks.length c2) ∧ w'.cell? ⟨Y, 2, none⟩ = some (.slice (some ⟨ib, 0, none⟩) f.blocks.length f.blocks.length)) w') := fun w' hh => ⟨(hh.cell (p := ⟨Y, 0, none⟩) hYD).trans y0, (hh.cell (p := ⟨Y, 1, none⟩) hYD).trans y1, (hh.cell (p := ⟨Y, 2, none⟩) hYD).trans y2⟩
    refine wp_region_X (fun w' => w'.cell? ⟨Y, 0, none⟩ = some (.slice (some ⟨pa, 0, none⟩) f.blocks.length f.blocks.length) ∧ w'.cell? ⟨Y, 1, none⟩ = some (.slice (some ⟨g, 0, none⟩) f.blocks.length c2) ∧ w'.cell? ⟨Y, 2, none⟩ = some (.slice (some ⟨ib, 0, none⟩) f.blocks.length f.blocks.length)) 99 (by kernel_rfl) ⟨y0, y1, y2⟩ (fun hHeld => ?_)
    refine wpX_takeg0 (v := ?_) (by kernel_rfl) (fun _ _ _ h => h) (by rfl) ?_ hHeld ?_
    rotate_left
    · intro w' hSw
      go_simp <;> with_reducible rfl
    try simp only [Act.put, List.setIfInBounds_toArray, List.set_cons_zero, List.set_cons_succ]
    refine wpX_takeg1 (v := ?_) (by kernel_rfl) (fun _ _ _ h => h) (by rfl) ?_ hHeld ?_
    rotate_left
    · intro w' hSw
      go_simp <;> with_reducible rfl
    try simp only [Act.put, List.setIfInBounds_toArray, List.set_cons_zero, List.set_cons_succ]
    refine wpX_takeg2 (v := ?_) (by kernel_rfl) (fun _ _ _ h => h) (by rfl) ?_ hHeld ?_
    rotate_left
    · intro w' hSw
      go_simp <;> with_reducible rfl
    try simp only [Act.put, List.setIfInBounds_toArray, List.set_cons_zero, List.set_cons_succ]
    refine wpX_takeg3 (v := ?_) (by kernel_rfl) (fun _ _ _ h => h) (by rfl) ?_ hHeld ?_
    rotate_left
    · intro w' hSw
      go_simp <;> with_reducible rfl
    try simp only [Act.put, List.setIfInBounds_toArray, List.set_cons_zero, List.set_cons_succ]
    refine wpX_takeg4 (v := ?_) (by kernel_rfl) (fun _ _ _ h => h) (by rfl) ?_ hHeld ?_
    rotate_left
    · intro w' hSw
      go_simp <;> with_reducible rfl
    try simp only [Act.put, List.setIfInBounds_toArray, List.set_cons_zero, List.set_cons_succ]
    refine wpX_step5 (by kernel_rfl) (fun K2 hK => ?_)
    go_simp
    refine HCD.mono ?_
    rintro e w4 ⟨rfl, hrow, hb4⟩
    have hb4' : Below D.heap.size D w4 := (Below.refl D.heap.size D).drew.trans hb4
    refine hK.out _ _ (HS.out _ hb4') (fun hHeld => ?_)
    clear hK K2
    try simp only [Act.put, List.setIfInBounds_toArray, List.set_cons_zero, List.set_cons_succ]
    refine wpX_takeg6 (v := ?_) (by kernel_rfl) (fun _ _ _ h => h) (by rfl) ?_ hHeld ?_
    rotate_left
    · intro w' hSw
      go_simp <;> with_reducible rfl
    try simp only [Act.put, List.setIfInBounds_toArray, List.set_cons_zero, List.set_cons_succ]
    have hW4 : Below W.heap.size W w4 := hWD.trans (hb4'.mono hWD.size)
    have R2 := (HR.out _ hW4).1
    have k0 := R2.cell (i := 0) (by omega)
    have k1 := R2.cell (i := 1) (by omega)
    have k2 := R2.cell (i := 2) (by omega)
    have z0 := R2.frozen 0
    have z1 := R2.frozen 1
    have z2 := R2.frozen 2
    have S0 := (R2.set 0 (.slice (some ⟨g, 0, none⟩) f.blocks.length c2)).cell (i := 0) (by omega)
    have S1 := ((R2.set 0 (.slice (some ⟨g, 0, none⟩) f.blocks.length c2)).set 1 (.slice (some ⟨ib, 0, none⟩) f.blocks.length f.blocks.length)).cell (i := 1) (by omega)
    have S2 := (((R2.set 0 (.slice (some ⟨g, 0, none⟩) f.blocks.length c2)).set 1 (.slice (some ⟨ib, 0, none⟩) f.blocks.length f.blocks.length)).set 2 (.slice (some ⟨M + 1, 0, none⟩) f.blocks.length f.blocks.length)).cell (i := 2) (by omega)
    simp only [if_true] at S0 S1 S2
    have hYW : w.heap.size + 1 + 1 < Y := hYY
    obtain ⟨w8, hw8⟩ : ∃ w8, w8 = ((w4.setCell ⟨w.heap.size + 1 + 1, 0, none⟩ (.slice (some ⟨g, 0, none⟩) f.blocks.length c2)).setCell ⟨w.heap.size + 1 + 1, 1, none⟩ (.slice (some ⟨ib, 0, none⟩) f.blocks.length f.blocks.length)).setCell ⟨w.heap.size + 1 + 1, 2, none⟩ (.slice (some ⟨M + 1, 0, none⟩) f.blocks.length f.blocks.length) := ⟨_, rfl⟩
    have hk8 : ∀ b, b ≠ w.heap.size + 1 + 1 → w8.heap[b]? = w4.heap[b]? := fun b hb => by
      rw [hw8, Below.heap_setCell _ _ _ _ hb, Below.heap_setCell _ _ _ _ hb, Below.heap_setCell _ _ _ _ hb]
    have hc8 : ∀ x : Addr, x.block ≠ w.heap.size + 1 + 1 → w8.cell? x = w4.cell? x := fun x hx => World.cell?_of_block (hk8 _ hx)
    have s0 := HS.out w4 hb4'
    have hS8 : (fun w' => w'.cell? ⟨Y, 0, none⟩ = some (.slice (some ⟨pa, 0, none⟩) f.blocks.length f.blocks.length) ∧ w'.cell? ⟨Y, 1, none⟩ = some (.slice (some ⟨g, 0, none⟩) f.blocks.length c2) ∧ w'.cell? ⟨Y, 2, none⟩ = some (.slice (some ⟨ib, 0, none⟩) f.blocks.length f.blocks.length)) w8 := ⟨(hc8 ⟨Y, 0, none⟩ (by simp; omega)).trans s0.1, (hc8 ⟨Y, 1, none⟩ (by simp; omega)).trans s0.2.1, (hc8 ⟨Y, 2, none⟩ (by simp; omega)).trans s0.2.2⟩
    have HB8 : Hid (Below w.heap.size w w8) := by
      rw [hw8]
      exact (((HR.out _ hW4).2.setCell (by simp; try omega) _).setCell (by simp; try omega) _).setCell (by simp; try omega) _
    have HT8 : Hid (TreeAt f K w.heap.size w8 (.agg #[.slice (some ⟨g, 0, none⟩) f.blocks.length c2, .slice (some ⟨ib, 0, none⟩) f.blocks.length f.blocks.length, .slice (some ⟨M + 1, 0, none⟩) f.blocks.length f.blocks.length])) := by
      have h14 : Below w1.heap.size w1 w4 := HODD.out.2.2.1.trans (hb4'.mono HODD.out.2.2.1.size)
      have hs8 : ∀ b, b ≠ w.heap.size + 1 + 1 → b < w1.heap.size → w8.heap[b]? = w1.heap[b]? := fun b h1 h2 => (hk8 b h1).trans (h14.block b h2)
      have hZ := HZ.out
      have hsz1 := HODD.out.2.2.2.size
      have hME := HME.out
      have hsz2 := HODD.out.2.2.1.size
      refine ⟨_, _, _, _, rfl, by omega, by omega, by omega, sl_kept HODD.out.1 fun b hb hx => hs8 b ?_ hb, sl_kept HODD.out.2.1 fun b hb hx => hs8 b ?_ hb, row_sl (hrow.of_block (hk8 _ (by omega))) lb⟩
      · obtain ⟨off, hx⟩ := hx
        simp only [Option.some.injEq, Addr.mk.injEq] at hx
        omega
      · obtain ⟨off, hx⟩ := hx
        simp only [Option.some.injEq, Addr.mk.injEq] at hx
        omega
    rw [hw8] at hS8 HB8 HT8
    clear hw8 hk8 hc8 R2 s0 hrow
    refine wpX_step7 (by kernel_rfl) (fun K2 hK => ?_)
    go_simp
    refine hK.out _ _ hS8 (fun hHeld => ?_)
    clear hK K2
    try simp only [Act.put, List.setIfInBounds_toArray, List.set_cons_zero, List.set_cons_succ]
    refine wpX_step8 (by kernel_rfl) (fun K2 hK => ?_)
    go_simp
    refine hK.out _ _ hS8 (fun hHeld => ?_)
    clear hK K2
    try simp only [Act.put, List.setIfInBounds_toArray, List.set_cons_zero, List.set_cons_succ]
    refine wpAnyX_done (by kernel_rfl) ?_ _
    clear HCD
    go_wp2
    refine bodyPost_ret (v := .tuple #[.agg #[.slice (some ⟨g, 0, none⟩) f.blocks.length c2, .slice (some ⟨ib, 0, none⟩) f.blocks.length f.blocks.length, .slice (some ⟨M + 1, 0, none⟩) f.blocks.length f.blocks.length], .int .i64 0]) (by simp [results, Try.results14, go_sem, S0, S1, S2]) rfl ⟨_, by rw [hH.out], fun _ => HT8.out, fun h => absurd hH.out h, HB8.out⟩
  · have q : (r != 0) = true := by simp [hr]
    have hH : Hid (r ≠ 0) := hr
    have hbA : Below W.heap.size W (w1.alloc (.cells #[.slice a n1 c1, .slice b n2 c2, .slice c n3 c3] 72)) := hb1.alloc hb1.size _
    have R2 := (HR.out _ hb1).1
    have k0 := R2.cell (i := 0) (by omega)
    have k1 := R2.cell (i := 1) (by omega)
    have k2 := R2.cell (i := 2) (by omega)
    have z0 := R2.frozen 0
    have z1 := R2.frozen 1
    have z2 := R2.frozen 2
    have S0 : (w1.setCell ⟨w.heap.size + 1 + 1, 0, none⟩ (.slice none 0 0)).cell? ⟨w.heap.size + 1 + 1, 0, none⟩ = some (.slice none 0 0) := (R2.set 0 (.slice none 0 0)).cell (i := 0) (by omega)
    have S1 : ((w1.setCell ⟨w.heap.size + 1 + 1, 0, none⟩ (.slice none 0 0)).setCell ⟨w.heap.size + 1 + 1, 1, none⟩ (.slice none 0 0)).cell? ⟨w.heap.size + 1 + 1, 1, none⟩ = some (.slice none 0 0) := ((R2.set 0 (.slice none 0 0)).set 1 (.slice none 0 0)).cell (i := 1) (by omega)
    have S2 : (((w1.setCell ⟨w.heap.size + 1 + 1, 0, none⟩ (.slice none 0 0)).setCell ⟨w.heap.size + 1 + 1, 1, none⟩ (.slice none 0 0)).setCell ⟨w.heap.size + 1 + 1, 2, none⟩ (.slice none 0 0)).cell? ⟨w.heap.size + 1 + 1, 2, none⟩ = some (.slice none 0 0) := (((R2.set 0 (.slice none 0 0)).set 1 (.slice none 0 0)).set 2 (.slice none 0 0)).cell (i := 2) (by omega)
    have lt2 := R2.lt
    have HB1 : Hid (Below w.heap.size w w1) := (HR.out _ hb1).2
    have L2 := old_cell (w.heap.size + 1 + 1)
    clear R2 hr hG
    go_wp2
    refine bodyPost_ret (v := .tuple #[.agg #[.slice none 0 0, .slice none 0 0, .slice none 0 0], .int .i64 r]) (by simp [results, Try.results14, go_sem, S0, S1, S2, lt2]) rfl ⟨_, rfl, fun h => absurd h hH.out, fun _ => rfl, ?_⟩
    repeat (first | exact HB1.out | refine Below.alloc ?_ (by simp; exact HB1.out.size) _ | refine Below.setCell ?_ (by simp; try omega) _)

/-- What Dominators answers, with the error r. -/
def TreeV (f : Fn) (K : Nat) (r : Int) (lo : Nat) (w : World) (v : Value) : Prop := (r = 0 → TreeAt f K lo w v) ∧ (r ≠ 0 → v = .agg #[.slice none 0 0, .slice none 0 0, .slice none 0 0])
theorem TreeV.keep {f : Fn} {K lo : Nat} {r : Int} {w w' : World} {v : Value} (h : TreeV f K r lo w v) (hk : ∀ b, lo ≤ b → b < w.heap.size → w'.heap[b]? = w.heap[b]?) : TreeV f K r lo w' v := by
  refine ⟨fun hr => ?_, h.2⟩
  obtain ⟨g, ib, db, co, rfl, l1, l2, l3, h1, h2, h3⟩ := h.1 hr
  have one : ∀ {g n cap : Nat} {l : List Int}, lo ≤ g → SlOf w 1 RInt (.slice (some ⟨g, 0, none⟩) n cap) l → SlOf w' 1 RInt (.slice (some ⟨g, 0, none⟩) n cap) l := fun hl hs => sl_kept hs fun b hb hx => hk b (by
    obtain ⟨off, hx⟩ := hx
    simp only [Option.some.injEq, Addr.mk.injEq] at hx
    omega) hb
  exact ⟨g, ib, db, co, rfl, l1, l2, l3, one l1.1 h1, one l2 h2, one l3 h3⟩
theorem dom_is (f : Fn) (K : Nat) (m0 m1 : Int) (av ab : Option Addr) (cv cb : Nat) (r : Int) (hr : flowE f m0 m1 K = r) (w : World) (hv : SlOf w 1 RInt (.slice av f.values.length cv) f.values) (hb : SlOf w 3 (RBlk w) (.slice ab f.blocks.length cb) f.blocks) (hin : shapeErr f m0 m1 = 0 → FlowIn f K) :
    Calls Try.prog 14 #[.agg #[.slice av f.values.length cv, .slice ab f.blocks.length cb], .agg #[.int .i64 m0, .int .i64 m1]] w fun e w' => ∃ a b c n1 n2 n3 c1 c2 c3, e = .returned (.tuple #[.agg #[.slice a n1 c1, .slice b n2 c2, .slice c n3 c3], .int .i64 r]) ∧ TreeV f K r w.heap.size w' (.agg #[.slice a n1 c1, .slice b n2 c2, .slice c n3 c3]) ∧ Below w.heap.size w w' := by
  refine (dominators_any f K m0 m1 av ab cv cb r hr w hv hb hin).mono ?_
  rintro e w' ⟨v, rfl, h1, h2, h3⟩
  by_cases hr0 : r = 0
  · obtain ⟨g, ib, db, co, rfl, rest⟩ := h1 hr0
    exact ⟨_, _, _, _, _, _, _, _, _, rfl, ⟨fun _ => ⟨g, ib, db, co, rfl, rest⟩, fun h => absurd hr0 h⟩, h3⟩
  · have e := h2 hr0
    subst e
    exact ⟨none, none, none, 0, 0, 0, 0, 0, 0, rfl, ⟨fun h => absurd h hr0, fun _ => rfl⟩, h3⟩
/-- Behind the call and the store of what it answered. -/
def TreeCut (f : Fn) (K : Nat) (r : Int) (W : World) (x y : Value) (wz : World) : Prop := ∃ X a b c n1 n2 n3 c1 c2 c3, x = .pointer (some ⟨X, 0, none⟩) ∧ y = .int .i64 r ∧ wz.rowIs X 50 3 (fun i => if i = 0 then .slice a n1 c1 else if i = 1 then .slice b n2 c2 else .slice c n3 c3) ∧ Below W.heap.size W wz ∧ TreeV f K r W.heap.size wz (.agg #[.slice a n1 c1, .slice b n2 c2, .slice c n3 c3])
theorem TreeV.lower {f : Fn} {K lo lo' : Nat} {r : Int} {w : World} {v : Value} (h : TreeV f K r lo w v) (hl : lo' ≤ lo) : TreeV f K r lo' w v := by
  refine ⟨fun hr => ?_, h.2⟩
  obtain ⟨g, ib, db, co, rfl, l1, l2, l3, rest⟩ := h.1 hr
  exact ⟨g, ib, db, co, rfl, by omega, by omega, by omega, rest⟩
theorem treeCut_new {f : Fn} {K lo : Nat} {r : Int} {W w3 : World} {a b c : Option Addr} {n1 n2 n3 c1 c2 c3 : Nat} (hT : TreeV f K r lo w3 (.agg #[.slice a n1 c1, .slice b n2 c2, .slice c n3 c3])) (hl : W.heap.size ≤ lo) (hW : Below W.heap.size W w3) :
    TreeCut f K r W (.pointer (some ⟨w3.heap.size, 0, none⟩)) (.int .i64 r) (w3.alloc (.cells #[.slice a n1 c1, .slice b n2 c2, .slice c n3 c3] 50)) := by
  refine ⟨w3.heap.size, a, b, c, n1, n2, n3, c1, c2, c3, rfl, rfl, World.rowIs_alloc _ _ _ _ fun i hi => ?_, hW.alloc hW.size _, (hT.keep fun b _ hb => ?_).lower hl⟩
  · simp at hi
    match i, hi with | 0, _ => rfl | 1, _ => rfl | 2, _ => rfl
  · exact ((Below.refl w3.heap.size w3).alloc (Nat.le_refl _) _).block b hb
theorem treeCut_set {f : Fn} {K lo X : Nat} {r : Int} {W w3 : World} {a b c : Option Addr} {n1 n2 n3 c1 c2 c3 : Nat} (hT : TreeV f K r lo w3 (.agg #[.slice a n1 c1, .slice b n2 c2, .slice c n3 c3])) (hl : W.heap.size ≤ lo) (hW : Below W.heap.size W w3) (hr : w3.rowIs X 50 3 (fun _ => .slice none 0 0)) (hX : W.heap.size ≤ X) (hXl : X < lo) :
    TreeCut f K r W (.pointer (some ⟨X, 0, none⟩)) (.int .i64 r) (((w3.setCell ⟨X, 0, none⟩ (.slice a n1 c1)).setCell ⟨X, 1, none⟩ (.slice b n2 c2)).setCell ⟨X, 2, none⟩ (.slice c n3 c3)) := by
  refine ⟨X, a, b, c, n1, n2, n3, c1, c2, c3, rfl, rfl, (((hr.set 0 _).set 1 _).set 2 _).congr fun i hi => ?_, ((hW.setCell hX _).setCell hX _).setCell hX _, (hT.keep fun b hb _ => ?_).lower hl⟩
  · match i, hi with | 0, _ => rfl | 1, _ => rfl | 2, _ => rfl
  · have hne : b ≠ X := by omega
    rw [Below.heap_setCell _ _ _ _ hne, Below.heap_setCell _ _ _ _ hne, Below.heap_setCell _ _ _ _ hne]
end Go.Proofs.Ytanhfkpphdbaaaa
namespace Go.Proofs.Ytanhfkpphdbaaaa
open Go.RowKit
set_option linter.unusedVariables false

def inB (n : Nat) (v : Int) : Bool := decide (0 ≤ v) && decide (v < (n : Int))
theorem inB_iff {n : Nat} {v : Int} (h : inB n v = true) : 0 ≤ v ∧ v < (n : Int) := by simpa [inB] using h
/-- All of it, by computing. -/
def flowInB (f : Fn) (K : Nat) : Bool :=
  decide (0 < f.blocks.length) && decide (f.blocks.length ≤ 1000) && decide (f.values.length ≤ 1000) && decide ((pairsM f.blocks).length ≤ 100000) &&
  (f.blocks.all fun b => b.edges.all fun e => inB f.blocks.length e.block) &&
  (f.blocks.all fun b => b.params.all (inB f.values.length) && b.instrs.all fun x => x.operands.all fun o => inB f.values.length o.value) &&
  (f.blocks.all fun b => b.edges.all fun e => e.args.all (inB f.values.length)) &&
  decide ((orderM f.blocks).length = f.blocks.length) && decide (orderM f.blocks).Nodup && (orderM f.blocks).all (inB f.blocks.length) &&
  ((List.range f.blocks.length).all fun a => (orderM f.blocks).contains (a : Int)) &&
  ((List.range f.blocks.length).all fun i => decide (i = 0) || ((predsL f.blocks).getD ((orderM f.blocks).getD i 0).toNat []).any fun p => decide (rankM (orderM f.blocks) p.toNat < i)) &&
  ((List.range f.blocks.length).all fun i => decide (roundsM (predL (predsL f.blocks)) (orderM f.blocks) f.blocks.length (K + 1) i = roundsM (predL (predsL f.blocks)) (orderM f.blocks) f.blocks.length K i))

theorem into_mem {bs : List Blk} {t : Nat} {p : Int} (h : p ∈ intoM (pairsM bs) t) : 0 ≤ p ∧ p < (bs.length : Int) := by
  unfold intoM at h
  obtain ⟨q, hq, rfl⟩ := List.mem_map.1 h
  have hq2 := (List.mem_filter.1 hq).1
  unfold pairsM pairsUpto at hq2
  obtain ⟨b, hb, hq3⟩ := List.mem_flatMap.1 hq2
  obtain ⟨t', _, rfl⟩ := List.mem_map.1 hq3
  have := List.mem_range.1 hb
  simp only
  omega
theorem preds_inn (bs : List Blk) (t : Nat) : ∀ p ∈ (predsL bs).getD t [], 0 ≤ p ∧ p < (bs.length : Int) := by
  intro p hp
  unfold predsL at hp
  by_cases ht : t < bs.length
  · rw [List.getD_eq_getElem?_getD, List.getElem?_eq_getElem (by simpa using ht)] at hp
    simp only [List.getElem_map, List.getElem_range, Option.getD_some] at hp
    exact into_mem hp
  · rw [List.getD_eq_getElem?_getD, List.getElem?_eq_none (by simp; omega)] at hp
    simp at hp
theorem succ_lt {bs : List Blk} (h : ∀ b ∈ bs, ∀ e ∈ b.edges, 0 ≤ e.block ∧ e.block < (bs.length : Int)) (b t : Nat) (ht : t ∈ succM bs b) : t < bs.length := by
  unfold succM at ht
  by_cases hb : b < bs.length
  · rw [List.getD_eq_getElem?_getD, List.getElem?_eq_getElem hb] at ht
    obtain ⟨e, he, rfl⟩ := List.mem_map.1 ht
    have := h bs[b] (List.getElem_mem hb) e he
    omega
  · rw [List.getD_eq_getElem?_getD, List.getElem?_eq_none (by omega)] at ht
    simp at ht
theorem flowIn_of {f : Fn} {K : Nat} (h : flowInB f K = true) : FlowIn f K := by
  unfold flowInB at h
  simp only [Bool.and_eq_true, decide_eq_true_eq, List.all_eq_true] at h
  obtain ⟨⟨⟨⟨⟨⟨⟨⟨⟨⟨⟨⟨h1, h2⟩, h3⟩, h4⟩, h5⟩, h6⟩, h7⟩, h8⟩, h9⟩, h10⟩, h11⟩, h12⟩, h13⟩ := h
  have hr : ∀ b ∈ f.blocks, ∀ e ∈ b.edges, 0 ≤ e.block ∧ e.block < (f.blocks.length : Int) := fun b hb e he => inB_iff (h5 b hb e he)
  refine ⟨h1, h2, h3, h4, hr, succ_lt hr, fun b hb => ⟨fun v hv => inB_iff ((h6 b hb).1 v hv), fun x hx o ho _ => inB_iff ((h6 b hb).2 x hx o ho)⟩, fun b hb => ⟨fun x hx o ho _ => inB_iff ((h6 b hb).2 x hx o ho), fun e he v hv => inB_iff (h7 b hb e he v hv)⟩, fun _ => ⟨⟨h1, by unfold predsL; simp, h8, h9, fun x hx => inB_iff (h10 x hx), fun a a0 a1 => ?_, preds_inn f.blocks, fun i i0 i1 => ?_⟩, fun i hi => h13 i (List.mem_range.2 hi)⟩⟩
  · have := h11 a.toNat (List.mem_range.2 (by omega))
    rw [Int.toNat_of_nonneg a0] at this
    simpa using this
  · have := h12 i (List.mem_range.2 i1)
    simp only [Bool.or_eq_true, decide_eq_true_eq, List.any_eq_true] at this
    rcases this with h | ⟨p, hp, h⟩
    · omega
    · exact ⟨p, hp, h⟩
end Go.Proofs.Ytanhfkpphdbaaaa
