/-
  The walks of RunMakes and RunTakes.
-/
import Derived.Test.YtoalfffecboahaaRuL
namespace Go.Proofs.Ytoalfffecboahaa
open Go.RowKit
set_option linter.unusedVariables false

set_option maxHeartbeats 4000000 in
theorem runMakes_w (seed op : Int) (vo vs : Value) (i : Int) (l : List Int) (v : Value) (w : World) (h : SlOf w 1 RInt v l) (hf : l.length * 8 ≤ 140737488351232) :
    Calls Try.prog 4 #[.int .i64 seed, .agg #[.int .i64 op, vo, vs], .int .i64 i, v] w fun e w' => e = .returned (.bool true) ∧ Below w.heap.size w w' := by
  obtain ⟨a, c, rfl, _⟩ := h.out
  obtain ⟨n, hn⟩ : ∃ n, l.length = n := ⟨_, rfl⟩
  rw [hn] at h hf ⊢
  obtain ⟨r, hr⟩ : ∃ r, mixL 7 ([seed, op, i] ++ l) = r := ⟨_, rfl⟩
  obtain ⟨N, hN⟩ : ∃ N, w.heap.size = N := ⟨_, rfl⟩
  obtain ⟨W, hW⟩ : ∃ W, W = w.alloc (.cells #[.int .i64 op, vo, vs] 30) := ⟨_, rfl⟩
  have hbw : Below w.heap.size w W := by rw [hW]; exact (Below.refl _ _).alloc (Nat.le_refl _) _
  have c0 : W.cell? ⟨N, 0, none⟩ = some (.int .i64 op) := by rw [hW, ← hN]; simp
  have c1 : W.cell? ⟨N, 1, none⟩ = some (vo) := by rw [hW, ← hN]; simp
  have c2 : W.cell? ⟨N, 2, none⟩ = some (vs) := by rw [hW, ← hN]; simp
  have lN : N < W.heap.size := by rw [hW, ← hN]; simp
  have HSF : Hid (∀ w', Below W.heap.size W w' → (fun w' => w'.cell? ⟨N, 0, none⟩ = some (.int .i64 op) ∧ w'.cell? ⟨N, 1, none⟩ = some (vo) ∧ w'.cell? ⟨N, 2, none⟩ = some (vs) ∧ Below W.heap.size W w') w') := fun w' hh => ⟨(hh.cell lN).trans c0, (hh.cell lN).trans c1, (hh.cell lN).trans c2, hh⟩
  have HL : Hid (l.length = n ∧ SlOf W 1 RInt (.slice a n c) l) := ⟨hn, h.below hbw fun _ _ h => h⟩
  have HR : Hid (mixL 7 ([seed, op, i] ++ l) = r) := hr
  clear hr
  have HW : Hid (W = w.alloc (.cells #[.int .i64 op, vo, vs] 30)) := hW
  have HN : Hid (w.heap.size = N) := hN
  have HBW : Hid (Below w.heap.size w W) := hbw
  clear hW hN hbw hn h
  go_enter Try.func4, Try.ntmps4
  go_upto_region 1 with fail
  rw [← HW.out, HN.out]
  clear c0 c1 c2
  refine wp_region_X (fun w' => w'.cell? ⟨N, 0, none⟩ = some (.int .i64 op) ∧ w'.cell? ⟨N, 1, none⟩ = some (vo) ∧ w'.cell? ⟨N, 2, none⟩ = some (vs) ∧ Below W.heap.size W w') 99 (by kernel_rfl) (HSF.out _ (Below.refl _ _).drew) (fun hHeld => ?_)
  refine wpX_takeg0 (v := ?_) (by kernel_rfl) (fun _ _ _ h => h) (by rfl) ?_ hHeld ?_
  rotate_left
  · intro w' hSw
    go_simp <;> with_reducible rfl
  try simp only [Act.put, List.setIfInBounds_toArray, List.set_cons_zero, List.set_cons_succ]
  refine wpX_takeg1 (v := ?_) (by kernel_rfl) (fun _ _ _ h => h) (by rfl) ?_ hHeld ?_
  rotate_left
  · intro w' hSw
    go_simp <;> with_reducible rfl
  try simp only [Act.put, List.setIfInBounds_toArray, List.set_cons_zero, List.set_cons_succ]
  refine wpX_takeg2 (v := ?_) (by kernel_rfl) (fun _ _ _ h => h) (by rfl) ?_ hHeld ?_
  rotate_left
  · intro w' hSw
    go_simp <;> with_reducible rfl
  try simp only [Act.put, List.setIfInBounds_toArray, List.set_cons_zero, List.set_cons_succ]
  refine wpX_takeg3 (v := ?_) (by kernel_rfl) (fun _ _ _ h => h) (by rfl) ?_ hHeld ?_
  rotate_left
  · intro w' hSw
    go_simp <;> with_reducible rfl
  try simp only [Act.put, List.setIfInBounds_toArray, List.set_cons_zero, List.set_cons_succ]
  have hbd : Below W.heap.size W W.drew := (Below.refl _ _).drew
  have HC := ints_copy l a n c W.drew HL.out.1 (HL.out.2.below hbd fun _ _ h => h) (by omega)
  have HBD : Hid (Below W.heap.size W W.drew) := hbd
  clear hbd
  refine wpX_step4 (by kernel_rfl) (fun K hK => ?_)
  go_simp
  refine HC.mono ?_
  clear HC
  rintro e w1 ⟨a', c', rfl, s1, hb1⟩
  have hb2 : Below W.heap.size W w1 := HBD.out.trans (hb1.mono HBD.out.size)
  have HC := made_any seed op i vo vs l a' n c' r w1 HL.out.1 s1 HR.out
  have HB2 : Hid (Below W.heap.size W w1) := hb2
  clear s1 hb1 hb2
  refine hK.out _ _ (HSF.out _ HB2.out) (fun hHeld => ?_)
  clear hK K
  try simp only [Act.put, List.setIfInBounds_toArray, List.set_cons_zero, List.set_cons_succ]
  refine wpX_step5 (by kernel_rfl) (fun K hK => ?_)
  go_simp
  refine HC.mono ?_
  clear HC
  rintro e w3 ⟨rfl, hb3⟩
  have HB3 : Hid (Below W.heap.size W w3) := HB2.out.trans (hb3.mono HB2.out.size)
  clear hb3
  refine hK.out _ _ (HSF.out _ HB3.out) (fun hHeld => ?_)
  clear hK K
  try simp only [Act.put, List.setIfInBounds_toArray, List.set_cons_zero, List.set_cons_succ]
  refine wpX_step6 (by kernel_rfl) (fun K hK => ?_)
  go_simp
  refine hK.out _ _ (HSF.out _ HB3.out) (fun hHeld => ?_)
  clear hK K
  try simp only [Act.put, List.setIfInBounds_toArray, List.set_cons_zero, List.set_cons_succ]
  refine wpAnyX_done (by kernel_rfl) ?_ _
  obtain ⟨d0, d1, d2, _⟩ := hHeld
  have HB4 : Hid (Below w.heap.size w w3) := HBW.out.trans (HB3.out.mono HBW.out.size)
  have HC := madeOf_any seed op i vo vs l a n c r w3 HL.out.1 (HL.out.2.below HB3.out fun _ _ h => h) (by omega) HR.out
  go_wp2_with fail
  refine HC.mono ?_
  clear HC
  rintro e w5 ⟨rfl, hb5⟩
  have HB5 : Hid (Below w.heap.size w w5) := HB4.out.trans (hb5.mono HB4.out.size)
  clear hb5 d0 d1 d2
  have q : (r == r) = true := by simp
  go_wp2
  go_ret
  exact ⟨rfl, HB5.out⟩

set_option maxHeartbeats 4000000 in
theorem runTakes_w (seed : Int) (xs : List Ins) (vp : Value) (ai ae : Option Addr) (ni ci ne ce : Nat) (i : Int) (l : List Int) (v : Value) (w : World) (hi : SlOf w 3 (RIns w) (.slice ai ni ci) xs) (hni : xs.length = ni) (hne : ne ≤ longest) (h : SlOf w 1 RInt v l) (hf : l.length * 8 ≤ 140737488351232) :
    Calls Try.prog 5 #[.int .i64 seed, .agg #[vp, .slice ai ni ci, .slice ae ne ce], .int .i64 i, v] w fun e w' => e = .returned (.bool true) ∧ Below w.heap.size w w' := by
  obtain ⟨a, c, rfl, _⟩ := h.out
  obtain ⟨n, hn⟩ : ∃ n, l.length = n := ⟨_, rfl⟩
  rw [hn] at h hf ⊢
  obtain ⟨r, hr⟩ : ∃ r, takesM seed xs ne i l = r := ⟨_, rfl⟩
  obtain ⟨N, hN⟩ : ∃ N, w.heap.size = N := ⟨_, rfl⟩
  obtain ⟨W, hW⟩ : ∃ W, W = w.alloc (.cells #[vp, .slice ai ni ci, .slice ae ne ce] 36) := ⟨_, rfl⟩
  have hbw : Below w.heap.size w W := by rw [hW]; exact (Below.refl _ _).alloc (Nat.le_refl _) _
  have c0 : W.cell? ⟨N, 0, none⟩ = some (vp) := by rw [hW, ← hN]; simp
  have c1 : W.cell? ⟨N, 1, none⟩ = some (.slice ai ni ci) := by rw [hW, ← hN]; simp
  have c2 : W.cell? ⟨N, 2, none⟩ = some (.slice ae ne ce) := by rw [hW, ← hN]; simp
  have lN : N < W.heap.size := by rw [hW, ← hN]; simp
  have HSF : Hid (∀ w', Below W.heap.size W w' → (fun w' => w'.cell? ⟨N, 0, none⟩ = some (vp) ∧ w'.cell? ⟨N, 1, none⟩ = some (.slice ai ni ci) ∧ w'.cell? ⟨N, 2, none⟩ = some (.slice ae ne ce) ∧ Below W.heap.size W w') w') := fun w' hh => ⟨(hh.cell lN).trans c0, (hh.cell lN).trans c1, (hh.cell lN).trans c2, hh⟩
  have HL : Hid (l.length = n ∧ SlOf W 1 RInt (.slice a n c) l) := ⟨hn, h.below hbw fun _ _ h => h⟩
  have HR : Hid (takesM seed xs ne i l = r ∧ SlOf W 3 (RIns W) (.slice ai ni ci) xs ∧ xs.length = ni ∧ ne ≤ longest) := ⟨hr, hi.below hbw (RIns.below hbw), hni, hne⟩
  clear hr hi hni hne
  have HW : Hid (W = w.alloc (.cells #[vp, .slice ai ni ci, .slice ae ne ce] 36)) := hW
  have HN : Hid (w.heap.size = N) := hN
  have HBW : Hid (Below w.heap.size w W) := hbw
  clear hW hN hbw hn h
  go_enter Try.func5, Try.ntmps5
  go_upto_region 1 with fail
  rw [← HW.out, HN.out]
  clear c0 c1 c2
  refine wp_region_X (fun w' => w'.cell? ⟨N, 0, none⟩ = some (vp) ∧ w'.cell? ⟨N, 1, none⟩ = some (.slice ai ni ci) ∧ w'.cell? ⟨N, 2, none⟩ = some (.slice ae ne ce) ∧ Below W.heap.size W w') 99 (by kernel_rfl) (HSF.out _ (Below.refl _ _).drew) (fun hHeld => ?_)
  refine wpX_takeg0 (v := ?_) (by kernel_rfl) (fun _ _ _ h => h) (by rfl) ?_ hHeld ?_
  rotate_left
  · intro w' hSw
    go_simp <;> with_reducible rfl
  try simp only [Act.put, List.setIfInBounds_toArray, List.set_cons_zero, List.set_cons_succ]
  refine wpX_takeg1 (v := ?_) (by kernel_rfl) (fun _ _ _ h => h) (by rfl) ?_ hHeld ?_
  rotate_left
  · intro w' hSw
    go_simp <;> with_reducible rfl
  try simp only [Act.put, List.setIfInBounds_toArray, List.set_cons_zero, List.set_cons_succ]
  refine wpX_takeg2 (v := ?_) (by kernel_rfl) (fun _ _ _ h => h) (by rfl) ?_ hHeld ?_
  rotate_left
  · intro w' hSw
    go_simp <;> with_reducible rfl
  try simp only [Act.put, List.setIfInBounds_toArray, List.set_cons_zero, List.set_cons_succ]
  refine wpX_takeg3 (v := ?_) (by kernel_rfl) (fun _ _ _ h => h) (by rfl) ?_ hHeld ?_
  rotate_left
  · intro w' hSw
    go_simp <;> with_reducible rfl
  try simp only [Act.put, List.setIfInBounds_toArray, List.set_cons_zero, List.set_cons_succ]
  have hbd : Below W.heap.size W W.drew := (Below.refl _ _).drew
  have HC := ints_copy l a n c W.drew HL.out.1 (HL.out.2.below hbd fun _ _ h => h) (by omega)
  have HBD : Hid (Below W.heap.size W W.drew) := hbd
  clear hbd
  refine wpX_step4 (by kernel_rfl) (fun K hK => ?_)
  go_simp
  refine HC.mono ?_
  clear HC
  rintro e w1 ⟨a', c', rfl, s1, hb1⟩
  have hb2 : Below W.heap.size W w1 := HBD.out.trans (hb1.mono HBD.out.size)
  have HC := takes_any seed xs vp ai ae ni ci ne ce i l a' n c' r w1 (HR.out.2.1.below hb2 (RIns.below hb2)) HR.out.2.2.1 HR.out.2.2.2 HL.out.1 s1 HR.out.1
  have HB2 : Hid (Below W.heap.size W w1) := hb2
  clear s1 hb1 hb2
  refine hK.out _ _ (HSF.out _ HB2.out) (fun hHeld => ?_)
  clear hK K
  try simp only [Act.put, List.setIfInBounds_toArray, List.set_cons_zero, List.set_cons_succ]
  refine wpX_step5 (by kernel_rfl) (fun K hK => ?_)
  go_simp
  refine HC.mono ?_
  clear HC
  rintro e w3 ⟨rfl, hb3⟩
  have HB3 : Hid (Below W.heap.size W w3) := HB2.out.trans (hb3.mono HB2.out.size)
  clear hb3
  refine hK.out _ _ (HSF.out _ HB3.out) (fun hHeld => ?_)
  clear hK K
  try simp only [Act.put, List.setIfInBounds_toArray, List.set_cons_zero, List.set_cons_succ]
  refine wpX_step6 (by kernel_rfl) (fun K hK => ?_)
  go_simp
  refine hK.out _ _ (HSF.out _ HB3.out) (fun hHeld => ?_)
  clear hK K
  try simp only [Act.put, List.setIfInBounds_toArray, List.set_cons_zero, List.set_cons_succ]
  refine wpAnyX_done (by kernel_rfl) ?_ _
  obtain ⟨d0, d1, d2, _⟩ := hHeld
  have HB4 : Hid (Below w.heap.size w w3) := HBW.out.trans (HB3.out.mono HBW.out.size)
  have HC := takesOf_any seed xs vp ai ae ni ci ne ce i l a n c r w3 (HR.out.2.1.below HB3.out (RIns.below HB3.out)) HR.out.2.2.1 HR.out.2.2.2 HL.out.1 (HL.out.2.below HB3.out fun _ _ h => h) (by omega) HR.out.1
  go_wp2_with fail
  refine HC.mono ?_
  clear HC
  rintro e w5 ⟨rfl, hb5⟩
  have HB5 : Hid (Below w.heap.size w w5) := HB4.out.trans (hb5.mono HB4.out.size)
  clear hb5 d0 d1 d2
  have q : (r == r) = true := by simp
  go_wp2
  go_ret
  exact ⟨rfl, HB5.out⟩

theorem runMakes_walk (seed : Int) (hs : (Lit.int .i64 seed).wf = true) (x : Ins) (vo vs : Value) (i : Int) (hi : (Lit.int .i64 i).wf = true) (l : List Int) (v : Value) (w : World) (hx : SlOf w 5 ROpr vo x.operands ∧ SlOf w 2 RRg vs x.spoils) (h : SlOf w 1 RInt v l) (hf : l.length * 8 ≤ 140737488351232) :
    Calls Try.prog 4 #[.int .i64 seed, .agg #[.int .i64 x.op, vo, vs], .int .i64 i, v] w fun e w' => e = .returned (.bool true) ∧ Below w.heap.size w w' := runMakes_w seed x.op vo vs i l v w h hf
theorem runTakes_walk (seed : Int) (hs : (Lit.int .i64 seed).wf = true) (b : Blk) (vp vi ve : Value) (i : Int) (hi : (Lit.int .i64 i).wf = true) (l : List Int) (v : Value) (w : World) (hb : SlOf w 1 RInt vp b.params ∧ SlOf w 3 (RIns w) vi b.instrs ∧ SlOf w 2 (REdg w) ve b.edges) (h : SlOf w 1 RInt v l) (hf : l.length * 8 ≤ 140737488351232) :
    Calls Try.prog 5 #[.int .i64 seed, .agg #[vp, vi, ve], .int .i64 i, v] w fun e w' => e = .returned (.bool true) ∧ Below w.heap.size w w' := by
  obtain ⟨_, h1, h2⟩ := hb
  obtain ⟨ai, ci, rfl, _⟩ := h1.out
  obtain ⟨ae, ce, rfl, le⟩ := h2.out
  exact runTakes_w seed b.instrs vp ai ae _ ci _ ce i l v w h1 rfl le h hf
end Go.Proofs.Ytoalfffecboahaa
