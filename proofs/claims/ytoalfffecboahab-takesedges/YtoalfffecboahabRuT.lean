/-
  The contract of 'Takes'.
-/
import Derived.Test.YtoalfffecboahabRuB
import Derived.Test.YtoalfffecboahabReg
import Derived.Deep.DeepCutAuto
import Derived.Deep.CutBlock
namespace Go.Proofs.Ytoalfffecboahab
open Go.RowKit
set_option linter.unusedVariables false

/-- Three numbers that were just laid. -/
theorem three_sl {w : World} (x y z : Int) : SlOf (w.alloc (.cells #[.int .i64 x, .int .i64 y, .int .i64 z] 3)) 1 RInt (.slice (some ⟨w.heap.size, 0, none⟩) 3 3) [x, y, z] :=
  own_ints [x, y, z] (ru_own_new w.heap.size [x, y, z] #[.int .i64 x, .int .i64 y, .int .i64 z] rfl (Nat.le_refl _) (by simp) (by simp [maxLen])) (by simp [longest])
theorem mix3_bd (x y z : Int) : 0 ≤ mixL 7 [x, y, z] ∧ mixL 7 [x, y, z] < 1000003 := mixL_bd _ _ (by decide) (by decide)

/-- Which edge is taken. -/
def takesM (seed : Int) (xs : List Ins) (ne : Nat) (i : Int) (read : List Int) : Int := if i < 0 ∨ i ≠ (xs.length : Int) - 1 ∨ ne = 0 then -1 else mixL 7 ([seed, (xs.map (·.op)).getD i.toNat 0, -1] ++ read) % (ne : Int)

set_option maxHeartbeats 4000000 in
theorem takes_any (seed : Int) (xs : List Ins) (vp : Value) (ai ae : Option Addr) (ni ci ne ce : Nat) (i : Int) (read : List Int) (a : Option Addr) (n c : Nat) (r : Int) (w : World) (hi : SlOf w 3 (RIns w) (.slice ai ni ci) xs) (hni : xs.length = ni) (hne : ne ≤ longest) (hn : read.length = n) (h1 : SlOf w 1 RInt (.slice a n c) read) (hr : takesM seed xs ne i read = r) :
    Calls Try.prog 6 #[.int .i64 seed, .agg #[vp, .slice ai ni ci, .slice ae ne ce], .int .i64 i, .slice a n c] w fun e w' => e = .returned (.int .i64 r) ∧ Below w.heap.size w w' := by
  obtain ⟨N, hN⟩ : ∃ N, w.heap.size = N := ⟨_, rfl⟩
  obtain ⟨W, hW⟩ : ∃ W, W = w.alloc (.cells #[vp, .slice ai ni ci, .slice ae ne ce] 32) := ⟨_, rfl⟩
  have hbw : Below w.heap.size w W := by rw [hW]; exact (Below.refl _ _).alloc (Nat.le_refl _) _
  have c1 : W.cell? ⟨N, 1, none⟩ = some (.slice ai ni ci) := by rw [hW, ← hN]; simp
  have c2 : W.cell? ⟨N, 2, none⟩ = some (.slice ae ne ce) := by rw [hW, ← hN]; simp
  have lN : N < W.heap.size := by rw [hW, ← hN]; simp
  have li : ni ≤ longest := by
    obtain ⟨_, _, _, h⟩ := hi.out
    omega
  unfold longest at li hne
  have HS1 : Hid (SlOf W 1 RInt (.slice a n c) read) := h1.below hbw fun _ _ h => h
  have HSI : Hid (SlOf W 3 (RIns W) (.slice ai ni ci) xs) := hi.below hbw (RIns.below hbw)
  have HW : Hid (W = w.alloc (.cells #[vp, .slice ai ni ci, .slice ae ne ce] 32)) := hW
  have HN : Hid (w.heap.size = N) := hN
  have HBW : Hid (Below w.heap.size w W) := hbw
  have HL : Hid (read.length = n ∧ xs.length = ni) := ⟨hn, hni⟩
  have wi : IntKind.i64.wrap ((ni : Int) - 1) = (ni : Int) - 1 := by rw [IntKind.wrap_i64]; omega
  clear h1 hi hW hN hbw hn hni
  by_cases g0 : i < 0
  · have HR : Hid (-1 = r) := by show _ = _; rw [← hr]; unfold takesM; rw [if_pos (Or.inl g0)]
    clear hr
    go_enter Try.func6, Try.ntmps6
    go_upto_region 1 with fail
    rw [← HW.out, HN.out]
    go_wp2
    go_ret
    exact ⟨ret_int HR.out, HBW.out⟩
  · by_cases g1 : i = (ni : Int) - 1
    · by_cases g2 : ne = 0
      · have HR : Hid (-1 = r) := by show _ = _; rw [← hr]; unfold takesM; rw [if_pos (Or.inr (Or.inr g2))]
        have q1 : (i == (ni : Int) - 1) = true := by simp [g1]
        clear hr
        subst g2
        go_enter Try.func6, Try.ntmps6
        go_upto_region 1 with fail
        rw [← HW.out, HN.out]
        go_wp2
        go_ret
        exact ⟨ret_int HR.out, HBW.out⟩
      · obtain ⟨k, hk⟩ : ∃ k : Nat, i = (k : Int) := ⟨i.toNat, by omega⟩
        subst hk
        obtain rfl : ni = k + 1 := by omega
        have hkn : k < k + 1 := by omega
        obtain ⟨b5, off5, cs, rfl, hcl5, ⟨vo, vs, rfl, hvo, hvs⟩, hc⟩ := HSI.out.at k (by rw [HL.out.2]; exact hkn)
        have c3 := hc 0 (by simp)
        simp at c3
        have hop : (xs.map (·.op)).getD k 0 = (xs[k]'(by rw [HL.out.2]; exact hkn)).op := by
          rw [List.getD_eq_getElem?_getD, List.getElem?_map, List.getElem?_eq_getElem (by rw [HL.out.2]; exact hkn)]
          rfl
        have l5 : b5 < W.heap.size := block_lt c3
        have hr2 : mixL 7 ([seed, (xs[k]'(by rw [HL.out.2]; exact hkn)).op, -1] ++ read) % (ne : Int) = r := by
          rw [← hr]
          unfold takesM
          rw [if_neg (by rw [HL.out.2]; omega), Int.toNat_natCast, hop]
        clear hc hcl5 hvo hvs hr hop
        generalize (xs[k]'(by rw [HL.out.2]; exact hkn)).op = op at *
        obtain ⟨x, hx⟩ : ∃ x, mixL 7 ([seed, op, -1] ++ read) = x := ⟨_, rfl⟩
        have x0 : 0 ≤ x := by rw [← hx]; exact (mixL_bd _ _ (by decide) (by decide)).1
        have x1 : x < 1000003 := by rw [← hx]; exact (mixL_bd _ _ (by decide) (by decide)).2
        rw [hx] at hr2
        have ne0 : 0 < ne := by omega
        have HX : Hid (mixL 7 ([seed, op, -1] ++ read) = x) := hx
        have HR : Hid (x % (ne : Int) = r) := hr2
        have q2 : ((ne : Int) == 0) = false := by simp [g2]
        have HSF : Hid (∀ w', Below W.heap.size W w' → (fun w' => w'.cell? ⟨N, 1, none⟩ = some (.slice (some ⟨b5, off5, none⟩) (k + 1) ci) ∧ w'.cell? ⟨N, 2, none⟩ = some (.slice ae ne ce) ∧ w'.cell? ⟨b5, off5 + k * 3, none⟩ = some (.int .i64 op) ∧ Below W.heap.size W w') w') := fun w' hh => ⟨(hh.cell lN).trans c1, (hh.cell lN).trans c2, (hh.cell l5).trans c3, hh⟩
        have hkc : k < k + 1 + 1 := by omega
        have hkk : (k : Int) < (k : Int) + 1 := by omega
        have HDA : Hid (∀ ob, Below W.heap.size W (W.drew.alloc ob)) := fun ob => (Below.refl _ _).drew.alloc (Nat.le_refl _) _
        have wk : IntKind.i64.wrap (k : Int) = (k : Int) := by rw [IntKind.wrap_i64]; omega
        clear hx hr2 g0 g1 g2
        go_enter Try.func6, Try.ntmps6
        go_upto_region 1 with fail
        rw [← HW.out, HN.out]
        go_upto_region 3 with fail
        clear c1 c2 c3
        refine wp_region_X (fun w' => w'.cell? ⟨N, 1, none⟩ = some (.slice (some ⟨b5, off5, none⟩) (k + 1) ci) ∧ w'.cell? ⟨N, 2, none⟩ = some (.slice ae ne ce) ∧ w'.cell? ⟨b5, off5 + k * 3, none⟩ = some (.int .i64 op) ∧ Below W.heap.size W w') 99 (by kernel_rfl) (HSF.out _ (Below.refl _ _).drew) (fun hHeld => ?_)
        refine wpXt (v := ?_) 0 rfl (by kernel_rfl) (fun _ _ _ h => h) (by rfl) ?_ hHeld ?_
        rotate_left
        · intro w' hSw
          go_simp <;> with_reducible rfl
        try simp only [Act.put, List.setIfInBounds_toArray, List.set_cons_zero, List.set_cons_succ]
        refine wpXt (v := ?_) 1 rfl (by kernel_rfl) (fun _ _ _ h => h) (by rfl) ?_ hHeld ?_
        rotate_left
        · intro w' hSw
          go_simp <;> with_reducible rfl
        try simp only [Act.put, List.setIfInBounds_toArray, List.set_cons_zero, List.set_cons_succ]
        refine wpXt (v := ?_) 2 rfl (by kernel_rfl) (fun _ _ _ h => h) (by rfl) ?_ hHeld ?_
        rotate_left
        · intro w' hSw
          go_simp <;> with_reducible rfl
        try simp only [Act.put, List.setIfInBounds_toArray, List.set_cons_zero, List.set_cons_succ]
        refine wpXt (v := ?_) 3 rfl (by kernel_rfl) (fun _ _ _ h => h) (by rfl) ?_ hHeld ?_
        rotate_left
        · intro w' hSw
          go_simp <;> with_reducible rfl
        try simp only [Act.put, List.setIfInBounds_toArray, List.set_cons_zero, List.set_cons_succ]
        refine wpXt (v := ?_) 4 rfl (by kernel_rfl) (fun _ _ _ h => h) (by rfl) ?_ hHeld ?_
        rotate_left
        · intro w' hSw
          go_simp <;> with_reducible rfl
        try simp only [Act.put, List.setIfInBounds_toArray, List.set_cons_zero, List.set_cons_succ]
        refine wpXt (v := ?_) 5 rfl (by kernel_rfl) (fun _ _ _ h => h) (by rfl) ?_ hHeld ?_
        rotate_left
        · intro w' hSw
          go_simp <;> with_reducible rfl
        try simp only [Act.put, List.setIfInBounds_toArray, List.set_cons_zero, List.set_cons_succ]
        refine wpXt (v := ?_) 6 rfl (by kernel_rfl) (fun _ _ _ h => h) (by rfl) ?_ hHeld ?_
        rotate_left
        · intro w' hSw
          go_simp <;> with_reducible rfl
        try simp only [Act.put, List.setIfInBounds_toArray, List.set_cons_zero, List.set_cons_succ]
        refine wpXt (v := ?_) 9 rfl (by kernel_rfl) (fun _ _ _ h => h) (by rfl) ?_ hHeld ?_
        rotate_left
        · intro w' hSw
          go_simp <;> with_reducible rfl
        try simp only [Act.put, List.setIfInBounds_toArray, List.set_cons_zero, List.set_cons_succ]
        refine wpXt (v := ?_) 11 rfl (by kernel_rfl) (fun _ _ _ h => h) (by rfl) ?_ hHeld ?_
        rotate_left
        · intro w' hSw
          go_simp <;> with_reducible rfl
        try simp only [Act.put, List.setIfInBounds_toArray, List.set_cons_zero, List.set_cons_succ]
        refine wpXt (v := ?_) 12 rfl (by kernel_rfl) (fun _ _ _ h => h) (by rfl) ?_ hHeld ?_
        rotate_left
        · intro w' hSw
          go_simp <;> with_reducible rfl
        try simp only [Act.put, List.setIfInBounds_toArray, List.set_cons_zero, List.set_cons_succ]
        refine wpXt (v := ?_) 13 rfl (by kernel_rfl) (fun _ _ _ h => h) (by rfl) ?_ hHeld ?_
        rotate_left
        · intro w' hSw
          go_simp <;> with_reducible rfl
        try simp only [Act.put, List.setIfInBounds_toArray, List.set_cons_zero, List.set_cons_succ]
        refine wpXs 7 rfl (by kernel_rfl) (fun K hK => ?_)
        go_simp
        refine hK.out _ _ (HSF.out _ (HDA.out _)) (fun hHeld => ?_)
        clear hK K
        try simp only [Act.put, List.setIfInBounds_toArray, List.set_cons_zero, List.set_cons_succ]
        have s3 : SlOf (W.drew.alloc (.cells #[.int .i64 seed, .int .i64 op, .int .i64 (-1)] 3)) 1 RInt (.slice (some ⟨W.drew.heap.size, 0, none⟩) 3 3) [seed, op, -1] := three_sl seed op (-1)
        have hb3 : Below W.heap.size W (W.drew.alloc (.cells #[.int .i64 seed, .int .i64 op, .int .i64 (-1)] 3)) := (Below.refl _ _).drew.alloc (Nat.le_refl _) _
        have HC := mix_any [seed, op, -1] (some ⟨W.drew.heap.size, 0, none⟩) 3 3 _ _ rfl s3 rfl
        have HD := mixed_any read a n c (mixL 7 [seed, op, -1]) x _ HL.out.1 (HS1.out.below hb3 fun _ _ h => h) (mix3_bd _ _ _).1 (mix3_bd _ _ _).2 (by rw [← mixL_app]; exact HX.out)
        have HB3 : Hid (Below W.heap.size W (W.drew.alloc (.cells #[.int .i64 seed, .int .i64 op, .int .i64 (-1)] 3))) := hb3
        generalize mixL 7 [seed, op, -1] = y at *
        clear s3 hb3
        refine wpXs 8 rfl (by kernel_rfl) (fun K hK => ?_)
        go_simp
        refine HC.mono ?_
        clear HC
        rintro e w' ⟨rfl, rfl⟩
        refine hK.out _ _ (HSF.out _ HB3.out) (fun hHeld => ?_)
        clear hK K
        try simp only [Act.put, List.setIfInBounds_toArray, List.set_cons_zero, List.set_cons_succ]
        refine wpXs 10 rfl (by kernel_rfl) (fun K hK => ?_)
        go_simp
        refine HD.mono ?_
        clear HD
        rintro e w' ⟨rfl, rfl⟩
        refine hK.out _ _ (HSF.out _ HB3.out) (fun hHeld => ?_)
        clear hK K
        try simp only [Act.put, List.setIfInBounds_toArray, List.set_cons_zero, List.set_cons_succ]
        refine wpXs 14 rfl (by kernel_rfl) (fun K hK => ?_)
        go_simp
        rw [if_neg (by omega), Int.tmod_eq_emod_of_nonneg x0]
        go_simp
        refine hK.out _ _ (HSF.out _ HB3.out) (fun hHeld => ?_)
        clear hK K
        try simp only [Act.put, List.setIfInBounds_toArray, List.set_cons_zero, List.set_cons_succ]
        refine wpXs 15 rfl (by kernel_rfl) (fun K hK => ?_)
        go_simp
        refine hK.out _ _ (HSF.out _ HB3.out) (fun hHeld => ?_)
        clear hK K
        try simp only [Act.put, List.setIfInBounds_toArray, List.set_cons_zero, List.set_cons_succ]
        refine wpAnyX_done (by kernel_rfl) ?_ _
        have HE : Hid (Below w.heap.size w _) := HBW.out.trans (HB3.out.mono HBW.out.size)
        go_wp2
        go_ret
        exact ⟨ret_int HR.out, HE.out⟩
    · have HR : Hid (-1 = r) := by show _ = _; rw [← hr]; unfold takesM; rw [if_pos (Or.inr (Or.inl (by rw [HL.out.2]; exact g1)))]
      have q1 : (i == (ni : Int) - 1) = false := by simp [g1]
      clear hr
      go_enter Try.func6, Try.ntmps6
      go_upto_region 1 with fail
      rw [← HW.out, HN.out]
      go_wp2
      go_ret
      exact ⟨ret_int HR.out, HBW.out⟩
end Go.Proofs.Ytoalfffecboahab
