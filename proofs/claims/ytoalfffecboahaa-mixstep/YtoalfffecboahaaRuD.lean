/-
  The contracts of 'Made', 'Takes' and of the reference's 'madeBy', 'edgeTaken', 'MadeOf', 'TakesOf'.
-/
import Derived.Test.YtoalfffecboahaaRuC
import Derived.Test.YtoalfffecboahaaReg
import Derived.Test.YtoalfffecboahaaReg2
import Derived.Deep.DeepCutAuto
import Derived.Deep.CutBlock
namespace Go.Proofs.Ytoalfffecboahaa
open Go.RowKit
set_option linter.unusedVariables false

/-- Three numbers that were just laid. -/
theorem three_sl {w : World} (x y z : Int) : SlOf (w.alloc (.cells #[.int .i64 x, .int .i64 y, .int .i64 z] 3)) 1 RInt (.slice (some ⟨w.heap.size, 0, none⟩) 3 3) [x, y, z] :=
  own_ints [x, y, z] (ru_own_new w.heap.size [x, y, z] #[.int .i64 x, .int .i64 y, .int .i64 z] rfl (Nat.le_refl _) (by simp) (by simp [maxLen])) (by simp [longest])
theorem mix3_bd (x y z : Int) : 0 ≤ mixL 7 [x, y, z] ∧ mixL 7 [x, y, z] < 1000003 := mixL_bd _ _ (by decide) (by decide)

theorem made_any (seed op place : Int) (vo vs : Value) (read : List Int) (a : Option Addr) (n c : Nat) (r : Int) (w : World) (hn : read.length = n) (h1 : SlOf w 1 RInt (.slice a n c) read) (hr : mixL 7 ([seed, op, place] ++ read) = r) :
    Calls Try.prog 13 #[.int .i64 seed, .agg #[.int .i64 op, vo, vs], .int .i64 place, .slice a n c] w fun e w' => e = .returned (.int .i64 r) ∧ Below w.heap.size w w' := by
  obtain ⟨W, hW⟩ : ∃ W, W = w.alloc (.cells #[.int .i64 op, vo, vs] 30) := ⟨_, rfl⟩
  have hbw : Below w.heap.size w W := by rw [hW]; exact (Below.refl _ _).alloc (Nat.le_refl _) _
  have c0 : W.cell? ⟨w.heap.size, 0, none⟩ = some (.int .i64 op) := by rw [hW]; simp
  obtain ⟨W2, hW2⟩ : ∃ W2, W2 = W.alloc (.cells #[.int .i64 seed, .int .i64 op, .int .i64 place] 3) := ⟨_, rfl⟩
  have hb2 : Below W.heap.size W W2 := by rw [hW2]; exact (Below.refl _ _).alloc (Nat.le_refl _) _
  have hb3 : Below w.heap.size w W2 := hbw.trans (hb2.mono hbw.size)
  have s3 : SlOf W2 1 RInt (.slice (some ⟨W.heap.size, 0, none⟩) 3 3) [seed, op, place] := by rw [hW2]; exact three_sl seed op place
  have HC := mix_any [seed, op, place] (some ⟨W.heap.size, 0, none⟩) 3 3 _ W2 rfl s3 rfl
  rw [mixL_app] at hr
  have HD := mixed_any read a n c (mixL 7 [seed, op, place]) r W2 hn (h1.below hb3 fun _ _ h => h) (mix3_bd _ _ _).1 (mix3_bd _ _ _).2 hr
  generalize mixL 7 [seed, op, place] = q at *
  have HW : Hid (W = w.alloc (.cells #[.int .i64 op, vo, vs] 30)) := hW
  have HW2 : Hid (W2 = W.alloc (.cells #[.int .i64 seed, .int .i64 op, .int .i64 place] 3)) := hW2
  have HB3 : Hid (Below w.heap.size w W2) := hb3
  clear hW hW2 hbw hb2 hb3 s3 h1 hr hn
  go_enter Try.func13, Try.ntmps13
  go_upto_region 1 with fail
  rw [← HW.out]
  go_wp2_with fail
  rw [← HW2.out]
  refine HC.mono ?_
  clear HC
  rintro e w' ⟨rfl, rfl⟩
  go_wp2_with fail
  refine HD.mono ?_
  clear HD
  rintro e w' ⟨rfl, rfl⟩
  go_wp2
  go_ret
  exact ⟨rfl, HB3.out⟩

theorem madeBy_any (seed op place : Int) (vo vs : Value) (read : List Int) (a : Option Addr) (n c : Nat) (r : Int) (w : World) (hn : read.length = n) (h1 : SlOf w 1 RInt (.slice a n c) read) (hfew : (3 + n) * 8 ≤ 140737488355328) (hr : mixL 7 ([seed, op, place] ++ read) = r) :
    Calls Try.prog 19 #[.int .i64 seed, .agg #[.int .i64 op, vo, vs], .int .i64 place, .slice a n c] w fun e w' => e = .returned (.int .i64 r) ∧ Below w.heap.size w w' := by
  obtain ⟨W, hW⟩ : ∃ W, W = w.alloc (.cells #[.int .i64 op, vo, vs] 30) := ⟨_, rfl⟩
  have hbw : Below w.heap.size w W := by rw [hW]; exact (Below.refl _ _).alloc (Nat.le_refl _) _
  have c0 : W.cell? ⟨w.heap.size, 0, none⟩ = some (.int .i64 op) := by rw [hW]; simp
  obtain ⟨W2, hW2⟩ : ∃ W2, W2 = W.alloc (.cells #[.int .i64 seed, .int .i64 op, .int .i64 place] 3) := ⟨_, rfl⟩
  have hb2 : Below W.heap.size W W2 := by rw [hW2]; exact (Below.refl _ _).alloc (Nat.le_refl _) _
  have hb3 : Below w.heap.size w W2 := hbw.trans (hb2.mono hbw.size)
  have s3 : SlOf W2 1 RInt (.slice (some ⟨W.heap.size, 0, none⟩) 3 3) [seed, op, place] := by rw [hW2]; exact three_sl seed op place
  have HC := joined_ints [seed, op, place] read (some ⟨W.heap.size, 0, none⟩) a 3 n 3 c W2 rfl hn s3 (h1.below hb3 fun _ _ h => h) hfew
  have HW : Hid (W = w.alloc (.cells #[.int .i64 op, vo, vs] 30)) := hW
  have HW2 : Hid (W2 = W.alloc (.cells #[.int .i64 seed, .int .i64 op, .int .i64 place] 3)) := hW2
  have HB3 : Hid (Below w.heap.size w W2) := hb3
  have HR : Hid (mixL 7 ([seed, op, place] ++ read) = r ∧ ([seed, op, place] ++ read).length = 3 + n) := ⟨hr, by simp [hn]; omega⟩
  clear hW hW2 hbw hb2 hb3 s3 h1 hr hn
  go_enter Try.func19, Try.ntmps19
  go_upto_region 1 with fail
  rw [← HW.out]
  go_wp2_with fail
  rw [← HW2.out]
  refine HC.mono ?_
  clear HC c0
  rintro e w' ⟨a', c', rfl, s4, hb4⟩
  have HC := mixedR_any _ a' (3 + n) c' r w' HR.out.2 s4 HR.out.1
  have HB4 : Hid (Below w.heap.size w w') := HB3.out.trans (hb4.mono HB3.out.size)
  clear s4 hb4
  go_wp2_with fail
  refine HC.mono ?_
  clear HC
  rintro e w2 ⟨rfl, rfl⟩
  go_wp2
  go_ret
  exact ⟨rfl, HB4.out⟩

theorem madeOf_any (seed op place : Int) (vo vs : Value) (read : List Int) (a : Option Addr) (n c : Nat) (r : Int) (w : World) (hn : read.length = n) (h1 : SlOf w 1 RInt (.slice a n c) read) (hfew : (3 + n) * 8 ≤ 140737488355328) (hr : mixL 7 ([seed, op, place] ++ read) = r) :
    Calls Try.prog 14 #[.int .i64 seed, .agg #[.int .i64 op, vo, vs], .int .i64 place, .slice a n c] w fun e w' => e = .returned (.int .i64 r) ∧ Below w.heap.size w w' := by
  have hbw : Below w.heap.size w (w.alloc (.cells #[.int .i64 op, vo, vs] 30)) := (Below.refl _ _).alloc (Nat.le_refl _) _
  have HC := madeBy_any seed op place vo vs read a n c r _ hn (h1.below hbw fun _ _ h => h) hfew hr
  have HB : Hid (Below w.heap.size w (w.alloc (.cells #[.int .i64 op, vo, vs] 30))) := hbw
  clear hbw h1 hr hn
  go_enter Try.func14, Try.ntmps14
  go_wp2_with fail
  refine HC.mono ?_
  clear HC
  rintro e w' ⟨rfl, hb⟩
  have HB2 : Hid (Below w.heap.size w w') := HB.out.trans (hb.mono HB.out.size)
  clear hb HB
  go_wp2
  go_ret
  exact ⟨rfl, HB2.out⟩

/-- Which edge is taken. -/
def takesM (seed : Int) (xs : List Ins) (ne : Nat) (i : Int) (read : List Int) : Int := if i < 0 ∨ i ≠ (xs.length : Int) - 1 ∨ ne = 0 then -1 else mixL 7 ([seed, (xs.map (·.op)).getD i.toNat 0, -1] ++ read) % (ne : Int)

set_option maxHeartbeats 4000000 in
theorem takes_any (seed : Int) (xs : List Ins) (vp : Value) (ai ae : Option Addr) (ni ci ne ce : Nat) (i : Int) (read : List Int) (a : Option Addr) (n c : Nat) (r : Int) (w : World) (hi : SlOf w 3 (RIns w) (.slice ai ni ci) xs) (hni : xs.length = ni) (hne : ne ≤ longest) (hn : read.length = n) (h1 : SlOf w 1 RInt (.slice a n c) read) (hr : takesM seed xs ne i read = r) :
    Calls Try.prog 15 #[.int .i64 seed, .agg #[vp, .slice ai ni ci, .slice ae ne ce], .int .i64 i, .slice a n c] w fun e w' => e = .returned (.int .i64 r) ∧ Below w.heap.size w w' := by
  obtain ⟨N, hN⟩ : ∃ N, w.heap.size = N := ⟨_, rfl⟩
  obtain ⟨W, hW⟩ : ∃ W, W = w.alloc (.cells #[vp, .slice ai ni ci, .slice ae ne ce] 36) := ⟨_, rfl⟩
  have hbw : Below w.heap.size w W := by rw [hW]; exact (Below.refl _ _).alloc (Nat.le_refl _) _
  have c1 : W.cell? ⟨N, 1, none⟩ = some (.slice ai ni ci) := by rw [hW, ← hN]; simp
  have c2 : W.cell? ⟨N, 2, none⟩ = some (.slice ae ne ce) := by rw [hW, ← hN]; simp
  have lN : N < W.heap.size := by rw [hW, ← hN]; simp
  have li : ni ≤ longest := by
    obtain ⟨_, _, _, h⟩ := hi.out
    omega
  unfold longest at li hne
  have HS1 : Hid (SlOf W 1 RInt (.slice a n c) read) := h1.below hbw fun _ _ h => h
  have HSI : Hid (SlOf W 3 (RIns W) (.slice ai ni ci) xs) := hi.below hbw (RIns.below hbw)
  have HW : Hid (W = w.alloc (.cells #[vp, .slice ai ni ci, .slice ae ne ce] 36)) := hW
  have HN : Hid (w.heap.size = N) := hN
  have HBW : Hid (Below w.heap.size w W) := hbw
  have HL : Hid (read.length = n ∧ xs.length = ni) := ⟨hn, hni⟩
  have wi : IntKind.i64.wrap ((ni : Int) - 1) = (ni : Int) - 1 := by rw [IntKind.wrap_i64]; omega
  clear h1 hi hW hN hbw hn hni
  by_cases g0 : i < 0
  · have HR : Hid (-1 = r) := by show _ = _; rw [← hr]; unfold takesM; rw [if_pos (Or.inl g0)]
    clear hr
    go_enter Try.func15, Try.ntmps15
    go_upto_region 1 with fail
    rw [← HW.out, HN.out]
    go_wp2
    go_ret
    exact ⟨ret_int HR.out, HBW.out⟩
  · by_cases g1 : i = (ni : Int) - 1
    · by_cases g2 : ne = 0
      · have HR : Hid (-1 = r) := by show _ = _; rw [← hr]; unfold takesM; rw [if_pos (Or.inr (Or.inr g2))]
        have q1 : (i == (ni : Int) - 1) = true := by simp [g1]
        clear hr
        subst g2
        go_enter Try.func15, Try.ntmps15
        go_upto_region 1 with fail
        rw [← HW.out, HN.out]
        go_wp2
        go_ret
        exact ⟨ret_int HR.out, HBW.out⟩
      · obtain ⟨k, hk⟩ : ∃ k : Nat, i = (k : Int) := ⟨i.toNat, by omega⟩
        subst hk
        obtain rfl : ni = k + 1 := by omega
        have hkn : k < k + 1 := by omega
        obtain ⟨b5, off5, cs, rfl, hcl5, ⟨vo, vs, rfl, hvo, hvs⟩, hc⟩ := HSI.out.at k (by rw [HL.out.2]; exact hkn)
        have c3 := hc 0 (by simp)
        simp at c3
        have hop : (xs.map (·.op)).getD k 0 = (xs[k]'(by rw [HL.out.2]; exact hkn)).op := by
          rw [List.getD_eq_getElem?_getD, List.getElem?_map, List.getElem?_eq_getElem (by rw [HL.out.2]; exact hkn)]
          rfl
        have l5 : b5 < W.heap.size := block_lt c3
        have hr2 : mixL 7 ([seed, (xs[k]'(by rw [HL.out.2]; exact hkn)).op, -1] ++ read) % (ne : Int) = r := by
          rw [← hr]
          unfold takesM
          rw [if_neg (by rw [HL.out.2]; omega), Int.toNat_natCast, hop]
        clear hc hcl5 hvo hvs hr hop
        generalize (xs[k]'(by rw [HL.out.2]; exact hkn)).op = op at *
        obtain ⟨x, hx⟩ : ∃ x, mixL 7 ([seed, op, -1] ++ read) = x := ⟨_, rfl⟩
        have x0 : 0 ≤ x := by rw [← hx]; exact (mixL_bd _ _ (by decide) (by decide)).1
        have x1 : x < 1000003 := by rw [← hx]; exact (mixL_bd _ _ (by decide) (by decide)).2
        rw [hx] at hr2
        have ne0 : 0 < ne := by omega
        have HX : Hid (mixL 7 ([seed, op, -1] ++ read) = x) := hx
        have HR : Hid (x % (ne : Int) = r) := hr2
        have q2 : ((ne : Int) == 0) = false := by simp [g2]
        have HSF : Hid (∀ w', Below W.heap.size W w' → (fun w' => w'.cell? ⟨N, 1, none⟩ = some (.slice (some ⟨b5, off5, none⟩) (k + 1) ci) ∧ w'.cell? ⟨N, 2, none⟩ = some (.slice ae ne ce) ∧ w'.cell? ⟨b5, off5 + k * 3, none⟩ = some (.int .i64 op) ∧ Below W.heap.size W w') w') := fun w' hh => ⟨(hh.cell lN).trans c1, (hh.cell lN).trans c2, (hh.cell l5).trans c3, hh⟩
        have hkc : k < k + 1 + 1 := by omega
        have hkk : (k : Int) < (k : Int) + 1 := by omega
        have HDA : Hid (∀ ob, Below W.heap.size W (W.drew.alloc ob)) := fun ob => (Below.refl _ _).drew.alloc (Nat.le_refl _) _
        have wk : IntKind.i64.wrap (k : Int) = (k : Int) := by rw [IntKind.wrap_i64]; omega
        clear hx hr2 g0 g1 g2
        go_enter Try.func15, Try.ntmps15
        go_upto_region 1 with fail
        rw [← HW.out, HN.out]
        go_upto_region 3 with fail
        clear c1 c2 c3
        refine wp_region_X (fun w' => w'.cell? ⟨N, 1, none⟩ = some (.slice (some ⟨b5, off5, none⟩) (k + 1) ci) ∧ w'.cell? ⟨N, 2, none⟩ = some (.slice ae ne ce) ∧ w'.cell? ⟨b5, off5 + k * 3, none⟩ = some (.int .i64 op) ∧ Below W.heap.size W w') 99 (by kernel_rfl) (HSF.out _ (Below.refl _ _).drew) (fun hHeld => ?_)
        refine wpX_takeg0 (v := ?_) (by kernel_rfl) (fun _ _ _ h => h) (by rfl) ?_ hHeld ?_
        rotate_left
        · intro w' hSw
          go_simp <;> with_reducible rfl
        try simp only [Act.put, List.setIfInBounds_toArray, List.set_cons_zero, List.set_cons_succ]
        refine wpX_takeg1 (v := ?_) (by kernel_rfl) (fun _ _ _ h => h) (by rfl) ?_ hHeld ?_
        rotate_left
        · intro w' hSw
          go_simp <;> with_reducible rfl
        try simp only [Act.put, List.setIfInBounds_toArray, List.set_cons_zero, List.set_cons_succ]
        refine wpX_takeg2 (v := ?_) (by kernel_rfl) (fun _ _ _ h => h) (by rfl) ?_ hHeld ?_
        rotate_left
        · intro w' hSw
          go_simp <;> with_reducible rfl
        try simp only [Act.put, List.setIfInBounds_toArray, List.set_cons_zero, List.set_cons_succ]
        refine wpX_takeg3 (v := ?_) (by kernel_rfl) (fun _ _ _ h => h) (by rfl) ?_ hHeld ?_
        rotate_left
        · intro w' hSw
          go_simp <;> with_reducible rfl
        try simp only [Act.put, List.setIfInBounds_toArray, List.set_cons_zero, List.set_cons_succ]
        refine wpX_takeg4 (v := ?_) (by kernel_rfl) (fun _ _ _ h => h) (by rfl) ?_ hHeld ?_
        rotate_left
        · intro w' hSw
          go_simp <;> with_reducible rfl
        try simp only [Act.put, List.setIfInBounds_toArray, List.set_cons_zero, List.set_cons_succ]
        refine wpX_takeg5 (v := ?_) (by kernel_rfl) (fun _ _ _ h => h) (by rfl) ?_ hHeld ?_
        rotate_left
        · intro w' hSw
          go_simp <;> with_reducible rfl
        try simp only [Act.put, List.setIfInBounds_toArray, List.set_cons_zero, List.set_cons_succ]
        refine wpX_takeg6 (v := ?_) (by kernel_rfl) (fun _ _ _ h => h) (by rfl) ?_ hHeld ?_
        rotate_left
        · intro w' hSw
          go_simp <;> with_reducible rfl
        try simp only [Act.put, List.setIfInBounds_toArray, List.set_cons_zero, List.set_cons_succ]
        refine wpX_takeg9 (v := ?_) (by kernel_rfl) (fun _ _ _ h => h) (by rfl) ?_ hHeld ?_
        rotate_left
        · intro w' hSw
          go_simp <;> with_reducible rfl
        try simp only [Act.put, List.setIfInBounds_toArray, List.set_cons_zero, List.set_cons_succ]
        refine wpX_takeg11 (v := ?_) (by kernel_rfl) (fun _ _ _ h => h) (by rfl) ?_ hHeld ?_
        rotate_left
        · intro w' hSw
          go_simp <;> with_reducible rfl
        try simp only [Act.put, List.setIfInBounds_toArray, List.set_cons_zero, List.set_cons_succ]
        refine wpX_takeg12 (v := ?_) (by kernel_rfl) (fun _ _ _ h => h) (by rfl) ?_ hHeld ?_
        rotate_left
        · intro w' hSw
          go_simp <;> with_reducible rfl
        try simp only [Act.put, List.setIfInBounds_toArray, List.set_cons_zero, List.set_cons_succ]
        refine wpX_takeg13 (v := ?_) (by kernel_rfl) (fun _ _ _ h => h) (by rfl) ?_ hHeld ?_
        rotate_left
        · intro w' hSw
          go_simp <;> with_reducible rfl
        try simp only [Act.put, List.setIfInBounds_toArray, List.set_cons_zero, List.set_cons_succ]
        refine wpX_step7 (by kernel_rfl) (fun K hK => ?_)
        go_simp
        refine hK.out _ _ (HSF.out _ (HDA.out _)) (fun hHeld => ?_)
        clear hK K
        try simp only [Act.put, List.setIfInBounds_toArray, List.set_cons_zero, List.set_cons_succ]
        have s3 : SlOf (W.drew.alloc (.cells #[.int .i64 seed, .int .i64 op, .int .i64 (-1)] 3)) 1 RInt (.slice (some ⟨W.drew.heap.size, 0, none⟩) 3 3) [seed, op, -1] := three_sl seed op (-1)
        have hb3 : Below W.heap.size W (W.drew.alloc (.cells #[.int .i64 seed, .int .i64 op, .int .i64 (-1)] 3)) := (Below.refl _ _).drew.alloc (Nat.le_refl _) _
        have HC := mix_any [seed, op, -1] (some ⟨W.drew.heap.size, 0, none⟩) 3 3 _ _ rfl s3 rfl
        have HD := mixed_any read a n c (mixL 7 [seed, op, -1]) x _ HL.out.1 (HS1.out.below hb3 fun _ _ h => h) (mix3_bd _ _ _).1 (mix3_bd _ _ _).2 (by rw [← mixL_app]; exact HX.out)
        have HB3 : Hid (Below W.heap.size W (W.drew.alloc (.cells #[.int .i64 seed, .int .i64 op, .int .i64 (-1)] 3))) := hb3
        generalize mixL 7 [seed, op, -1] = y at *
        clear s3 hb3
        refine wpX_step8 (by kernel_rfl) (fun K hK => ?_)
        go_simp
        refine HC.mono ?_
        clear HC
        rintro e w' ⟨rfl, rfl⟩
        refine hK.out _ _ (HSF.out _ HB3.out) (fun hHeld => ?_)
        clear hK K
        try simp only [Act.put, List.setIfInBounds_toArray, List.set_cons_zero, List.set_cons_succ]
        refine wpX_step10 (by kernel_rfl) (fun K hK => ?_)
        go_simp
        refine HD.mono ?_
        clear HD
        rintro e w' ⟨rfl, rfl⟩
        refine hK.out _ _ (HSF.out _ HB3.out) (fun hHeld => ?_)
        clear hK K
        try simp only [Act.put, List.setIfInBounds_toArray, List.set_cons_zero, List.set_cons_succ]
        refine wpX_step14 (by kernel_rfl) (fun K hK => ?_)
        go_simp
        rw [if_neg (by omega), Int.tmod_eq_emod_of_nonneg x0]
        go_simp
        refine hK.out _ _ (HSF.out _ HB3.out) (fun hHeld => ?_)
        clear hK K
        try simp only [Act.put, List.setIfInBounds_toArray, List.set_cons_zero, List.set_cons_succ]
        refine wpX_step15 (by kernel_rfl) (fun K hK => ?_)
        go_simp
        refine hK.out _ _ (HSF.out _ HB3.out) (fun hHeld => ?_)
        clear hK K
        try simp only [Act.put, List.setIfInBounds_toArray, List.set_cons_zero, List.set_cons_succ]
        refine wpAnyX_done (by kernel_rfl) ?_ _
        have HE : Hid (Below w.heap.size w _) := HBW.out.trans (HB3.out.mono HBW.out.size)
        go_wp2
        go_ret
        exact ⟨ret_int HR.out, HE.out⟩
    · have HR : Hid (-1 = r) := by show _ = _; rw [← hr]; unfold takesM; rw [if_pos (Or.inr (Or.inl (by rw [HL.out.2]; exact g1)))]
      have q1 : (i == (ni : Int) - 1) = false := by simp [g1]
      clear hr
      go_enter Try.func15, Try.ntmps15
      go_upto_region 1 with fail
      rw [← HW.out, HN.out]
      go_wp2
      go_ret
      exact ⟨ret_int HR.out, HBW.out⟩

set_option maxHeartbeats 4000000 in
theorem edgeTaken_any (seed : Int) (xs : List Ins) (vp : Value) (ai ae : Option Addr) (ni ci ne ce : Nat) (i : Int) (read : List Int) (a : Option Addr) (n c : Nat) (r : Int) (w : World) (hi : SlOf w 3 (RIns w) (.slice ai ni ci) xs) (hni : xs.length = ni) (hne : ne ≤ longest) (hn : read.length = n) (h1 : SlOf w 1 RInt (.slice a n c) read) (hfew : (3 + n) * 8 ≤ 140737488355328) (hr : takesM seed xs ne i read = r) :
    Calls Try.prog 20 #[.int .i64 seed, .agg #[vp, .slice ai ni ci, .slice ae ne ce], .int .i64 i, .slice a n c] w fun e w' => e = .returned (.int .i64 r) ∧ Below w.heap.size w w' := by
  obtain ⟨N, hN⟩ : ∃ N, w.heap.size = N := ⟨_, rfl⟩
  obtain ⟨W, hW⟩ : ∃ W, W = w.alloc (.cells #[vp, .slice ai ni ci, .slice ae ne ce] 36) := ⟨_, rfl⟩
  have hbw : Below w.heap.size w W := by rw [hW]; exact (Below.refl _ _).alloc (Nat.le_refl _) _
  have c1 : W.cell? ⟨N, 1, none⟩ = some (.slice ai ni ci) := by rw [hW, ← hN]; simp
  have c2 : W.cell? ⟨N, 2, none⟩ = some (.slice ae ne ce) := by rw [hW, ← hN]; simp
  have lN : N < W.heap.size := by rw [hW, ← hN]; simp
  have li : ni ≤ longest := by
    obtain ⟨_, _, _, h⟩ := hi.out
    omega
  unfold longest at li hne
  have HS1 : Hid (SlOf W 1 RInt (.slice a n c) read) := h1.below hbw fun _ _ h => h
  have HSI : Hid (SlOf W 3 (RIns W) (.slice ai ni ci) xs) := hi.below hbw (RIns.below hbw)
  have HW : Hid (W = w.alloc (.cells #[vp, .slice ai ni ci, .slice ae ne ce] 36)) := hW
  have HN : Hid (w.heap.size = N) := hN
  have HBW : Hid (Below w.heap.size w W) := hbw
  have HL : Hid (read.length = n ∧ xs.length = ni) := ⟨hn, hni⟩
  have wi : IntKind.i64.wrap ((ni : Int) - 1) = (ni : Int) - 1 := by rw [IntKind.wrap_i64]; omega
  clear h1 hi hW hN hbw hn hni
  by_cases g0 : i < 0
  · have HR : Hid (-1 = r) := by show _ = _; rw [← hr]; unfold takesM; rw [if_pos (Or.inl g0)]
    clear hr
    go_enter Try.func20, Try.ntmps20
    go_upto_region 1 with fail
    rw [← HW.out, HN.out]
    go_wp2
    go_ret
    exact ⟨ret_int HR.out, HBW.out⟩
  · by_cases g1 : i = (ni : Int) - 1
    · by_cases g2 : ne = 0
      · have HR : Hid (-1 = r) := by show _ = _; rw [← hr]; unfold takesM; rw [if_pos (Or.inr (Or.inr g2))]
        have q1 : (i == (ni : Int) - 1) = true := by simp [g1]
        clear hr
        subst g2
        go_enter Try.func20, Try.ntmps20
        go_upto_region 1 with fail
        rw [← HW.out, HN.out]
        go_wp2
        go_ret
        exact ⟨ret_int HR.out, HBW.out⟩
      · by_cases g3 : ne = 1
        · have HR : Hid (0 = r) := by
            show _ = _
            rw [← hr]
            unfold takesM
            rw [if_neg (by rw [HL.out.2]; omega), g3]
            omega
          have q1 : (i == (ni : Int) - 1) = true := by simp [g1]
          clear hr
          subst g3
          go_enter Try.func20, Try.ntmps20
          go_upto_region 1 with fail
          rw [← HW.out, HN.out]
          go_wp2
          go_ret
          exact ⟨ret_int HR.out, HBW.out⟩
        · obtain ⟨k, hk⟩ : ∃ k : Nat, i = (k : Int) := ⟨i.toNat, by omega⟩
          subst hk
          obtain rfl : ni = k + 1 := by omega
          have hkn : k < k + 1 := by omega
          obtain ⟨b5, off5, cs, rfl, hcl5, ⟨vo, vs, rfl, hvo, hvs⟩, hc⟩ := HSI.out.at k (by rw [HL.out.2]; exact hkn)
          have c3 := hc 0 (by simp)
          simp at c3
          have hop : (xs.map (·.op)).getD k 0 = (xs[k]'(by rw [HL.out.2]; exact hkn)).op := by
            rw [List.getD_eq_getElem?_getD, List.getElem?_map, List.getElem?_eq_getElem (by rw [HL.out.2]; exact hkn)]
            rfl
          have l5 : b5 < W.heap.size := block_lt c3
          have hr2 : mixL 7 ([seed, (xs[k]'(by rw [HL.out.2]; exact hkn)).op, -1] ++ read) % (ne : Int) = r := by
            rw [← hr]
            unfold takesM
            rw [if_neg (by rw [HL.out.2]; omega), Int.toNat_natCast, hop]
          clear hc hcl5 hvo hvs hr hop
          generalize (xs[k]'(by rw [HL.out.2]; exact hkn)).op = op at *
          obtain ⟨x, hx⟩ : ∃ x, mixL 7 ([seed, op, -1] ++ read) = x := ⟨_, rfl⟩
          have x0 : 0 ≤ x := by rw [← hx]; exact (mixL_bd _ _ (by decide) (by decide)).1
          have x1 : x < 1000003 := by rw [← hx]; exact (mixL_bd _ _ (by decide) (by decide)).2
          rw [hx] at hr2
          have ne0 : 0 < ne := by omega
          have HX : Hid (mixL 7 ([seed, op, -1] ++ read) = x) := hx
          have HR : Hid (x % (ne : Int) = r) := hr2
          have q2 : ((ne : Int) == 0) = false := by simp [g2]
          have HSF : Hid (∀ w', Below W.heap.size W w' → (fun w' => w'.cell? ⟨N, 1, none⟩ = some (.slice (some ⟨b5, off5, none⟩) (k + 1) ci) ∧ w'.cell? ⟨N, 2, none⟩ = some (.slice ae ne ce) ∧ w'.cell? ⟨b5, off5 + k * 3, none⟩ = some (.int .i64 op) ∧ Below W.heap.size W w') w') := fun w' hh => ⟨(hh.cell lN).trans c1, (hh.cell lN).trans c2, (hh.cell l5).trans c3, hh⟩
          have hkc : k < k + 1 + 1 := by omega
          have hkk : (k : Int) < (k : Int) + 1 := by omega
          have HDA : Hid (∀ ob, Below W.heap.size W (W.drew.alloc ob)) := fun ob => (Below.refl _ _).drew.alloc (Nat.le_refl _) _
          have wk : IntKind.i64.wrap (k : Int) = (k : Int) := by rw [IntKind.wrap_i64]; omega
          have q3 : ((ne : Int) == 1) = false := by simp; omega
          clear hx hr2 g0 g1 g2
          go_enter Try.func20, Try.ntmps20
          go_upto_region 1 with fail
          rw [← HW.out, HN.out]
          go_upto_region 5 with fail
          clear c1 c2 c3
          refine wp_region_X (fun w' => w'.cell? ⟨N, 1, none⟩ = some (.slice (some ⟨b5, off5, none⟩) (k + 1) ci) ∧ w'.cell? ⟨N, 2, none⟩ = some (.slice ae ne ce) ∧ w'.cell? ⟨b5, off5 + k * 3, none⟩ = some (.int .i64 op) ∧ Below W.heap.size W w') 99 (by kernel_rfl) (HSF.out _ (Below.refl _ _).drew) (fun hHeld => ?_)
          refine wpX_takeg0 (v := ?_) (by kernel_rfl) (fun _ _ _ h => h) (by rfl) ?_ hHeld ?_
          rotate_left
          · intro w' hSw
            go_simp <;> with_reducible rfl
          try simp only [Act.put, List.setIfInBounds_toArray, List.set_cons_zero, List.set_cons_succ]
          refine wpX_takeg1 (v := ?_) (by kernel_rfl) (fun _ _ _ h => h) (by rfl) ?_ hHeld ?_
          rotate_left
          · intro w' hSw
            go_simp <;> with_reducible rfl
          try simp only [Act.put, List.setIfInBounds_toArray, List.set_cons_zero, List.set_cons_succ]
          refine wpX_takeg2 (v := ?_) (by kernel_rfl) (fun _ _ _ h => h) (by rfl) ?_ hHeld ?_
          rotate_left
          · intro w' hSw
            go_simp <;> with_reducible rfl
          try simp only [Act.put, List.setIfInBounds_toArray, List.set_cons_zero, List.set_cons_succ]
          refine wpX_takeg3 (v := ?_) (by kernel_rfl) (fun _ _ _ h => h) (by rfl) ?_ hHeld ?_
          rotate_left
          · intro w' hSw
            go_simp <;> with_reducible rfl
          try simp only [Act.put, List.setIfInBounds_toArray, List.set_cons_zero, List.set_cons_succ]
          refine wpX_takeg4 (v := ?_) (by kernel_rfl) (fun _ _ _ h => h) (by rfl) ?_ hHeld ?_
          rotate_left
          · intro w' hSw
            go_simp <;> with_reducible rfl
          try simp only [Act.put, List.setIfInBounds_toArray, List.set_cons_zero, List.set_cons_succ]
          refine wpX_takeg5 (v := ?_) (by kernel_rfl) (fun _ _ _ h => h) (by rfl) ?_ hHeld ?_
          rotate_left
          · intro w' hSw
            go_simp <;> with_reducible rfl
          try simp only [Act.put, List.setIfInBounds_toArray, List.set_cons_zero, List.set_cons_succ]
          refine wpX_takeg6 (v := ?_) (by kernel_rfl) (fun _ _ _ h => h) (by rfl) ?_ hHeld ?_
          rotate_left
          · intro w' hSw
            go_simp <;> with_reducible rfl
          try simp only [Act.put, List.setIfInBounds_toArray, List.set_cons_zero, List.set_cons_succ]
          refine wpX_takeg8 (v := ?_) (by kernel_rfl) (fun _ _ _ h => h) (by rfl) ?_ hHeld ?_
          rotate_left
          · intro w' hSw
            go_simp <;> with_reducible rfl
          try simp only [Act.put, List.setIfInBounds_toArray, List.set_cons_zero, List.set_cons_succ]
          refine wpX_takeg11 (v := ?_) (by kernel_rfl) (fun _ _ _ h => h) (by rfl) ?_ hHeld ?_
          rotate_left
          · intro w' hSw
            go_simp <;> with_reducible rfl
          try simp only [Act.put, List.setIfInBounds_toArray, List.set_cons_zero, List.set_cons_succ]
          refine wpX_takeg12 (v := ?_) (by kernel_rfl) (fun _ _ _ h => h) (by rfl) ?_ hHeld ?_
          rotate_left
          · intro w' hSw
            go_simp <;> with_reducible rfl
          try simp only [Act.put, List.setIfInBounds_toArray, List.set_cons_zero, List.set_cons_succ]
          refine wpX_takeg13 (v := ?_) (by kernel_rfl) (fun _ _ _ h => h) (by rfl) ?_ hHeld ?_
          rotate_left
          · intro w' hSw
            go_simp <;> with_reducible rfl
          try simp only [Act.put, List.setIfInBounds_toArray, List.set_cons_zero, List.set_cons_succ]
          refine wpX_step7 (by kernel_rfl) (fun K hK => ?_)
          go_simp
          refine hK.out _ _ (HSF.out _ (HDA.out _)) (fun hHeld => ?_)
          clear hK K
          try simp only [Act.put, List.setIfInBounds_toArray, List.set_cons_zero, List.set_cons_succ]
          have s3 : SlOf (W.drew.alloc (.cells #[.int .i64 seed, .int .i64 op, .int .i64 (-1)] 3)) 1 RInt (.slice (some ⟨W.drew.heap.size, 0, none⟩) 3 3) [seed, op, -1] := three_sl seed op (-1)
          have hb3 : Below W.heap.size W (W.drew.alloc (.cells #[.int .i64 seed, .int .i64 op, .int .i64 (-1)] 3)) := (Below.refl _ _).drew.alloc (Nat.le_refl _) _
          have HC := joined_ints [seed, op, -1] read (some ⟨W.drew.heap.size, 0, none⟩) a 3 n 3 c _ rfl HL.out.1 s3 (HS1.out.below hb3 fun _ _ h => h) hfew
          have HB4 : Hid (Below W.heap.size W (W.drew.alloc (.cells #[.int .i64 seed, .int .i64 op, .int .i64 (-1)] 3))) := hb3
          have HLL : Hid (([seed, op, -1] ++ read).length = 3 + n) := by show _ = _; simp [HL.out.1]; omega
          clear s3 hb3
          refine wpX_step9 (by kernel_rfl) (fun K hK => ?_)
          go_simp
          refine HC.mono ?_
          clear HC
          rintro e w4 ⟨a', c', rfl, s4, hb4⟩
          have HB3 : Hid (Below W.heap.size W w4) := HB4.out.trans (hb4.mono HB4.out.size)
          have HD := mixedR_any _ a' (3 + n) c' x w4 HLL.out s4 HX.out
          clear s4 hb4
          refine hK.out _ _ (HSF.out _ HB3.out) (fun hHeld => ?_)
          clear hK K
          try simp only [Act.put, List.setIfInBounds_toArray, List.set_cons_zero, List.set_cons_succ]
          refine wpX_step10 (by kernel_rfl) (fun K hK => ?_)
          go_simp
          refine HD.mono ?_
          clear HD
          rintro e w' ⟨rfl, rfl⟩
          refine hK.out _ _ (HSF.out _ HB3.out) (fun hHeld => ?_)
          clear hK K
          try simp only [Act.put, List.setIfInBounds_toArray, List.set_cons_zero, List.set_cons_succ]
          refine wpX_step14 (by kernel_rfl) (fun K hK => ?_)
          go_simp
          rw [if_neg (by omega), Int.tmod_eq_emod_of_nonneg x0]
          go_simp
          refine hK.out _ _ (HSF.out _ HB3.out) (fun hHeld => ?_)
          clear hK K
          try simp only [Act.put, List.setIfInBounds_toArray, List.set_cons_zero, List.set_cons_succ]
          refine wpX_step15 (by kernel_rfl) (fun K hK => ?_)
          go_simp
          refine hK.out _ _ (HSF.out _ HB3.out) (fun hHeld => ?_)
          clear hK K
          try simp only [Act.put, List.setIfInBounds_toArray, List.set_cons_zero, List.set_cons_succ]
          refine wpAnyX_done (by kernel_rfl) ?_ _
          have HE : Hid (Below w.heap.size w _) := HBW.out.trans (HB3.out.mono HBW.out.size)
          go_wp2
          go_ret
          exact ⟨ret_int HR.out, HE.out⟩
    · have HR : Hid (-1 = r) := by show _ = _; rw [← hr]; unfold takesM; rw [if_pos (Or.inr (Or.inl (by rw [HL.out.2]; exact g1)))]
      have q1 : (i == (ni : Int) - 1) = false := by simp [g1]
      clear hr
      go_enter Try.func20, Try.ntmps20
      go_upto_region 1 with fail
      rw [← HW.out, HN.out]
      go_wp2
      go_ret
      exact ⟨ret_int HR.out, HBW.out⟩

theorem takesOf_any (seed : Int) (xs : List Ins) (vp : Value) (ai ae : Option Addr) (ni ci ne ce : Nat) (i : Int) (read : List Int) (a : Option Addr) (n c : Nat) (r : Int) (w : World) (hi : SlOf w 3 (RIns w) (.slice ai ni ci) xs) (hni : xs.length = ni) (hne : ne ≤ longest) (hn : read.length = n) (h1 : SlOf w 1 RInt (.slice a n c) read) (hfew : (3 + n) * 8 ≤ 140737488355328) (hr : takesM seed xs ne i read = r) :
    Calls Try.prog 16 #[.int .i64 seed, .agg #[vp, .slice ai ni ci, .slice ae ne ce], .int .i64 i, .slice a n c] w fun e w' => e = .returned (.int .i64 r) ∧ Below w.heap.size w w' := by
  have hbw : Below w.heap.size w (w.alloc (.cells #[vp, .slice ai ni ci, .slice ae ne ce] 36)) := (Below.refl _ _).alloc (Nat.le_refl _) _
  have HC := edgeTaken_any seed xs vp ai ae ni ci ne ce i read a n c r _ (hi.below hbw (RIns.below hbw)) hni hne hn (h1.below hbw fun _ _ h => h) hfew hr
  have HB : Hid (Below w.heap.size w (w.alloc (.cells #[vp, .slice ai ni ci, .slice ae ne ce] 36))) := hbw
  clear hbw h1 hr hn hi hni
  go_enter Try.func16, Try.ntmps16
  go_wp2_with fail
  refine HC.mono ?_
  clear HC
  rintro e w' ⟨rfl, hb⟩
  have HB2 : Hid (Below w.heap.size w w') := HB.out.trans (hb.mono HB.out.size)
  clear hb HB
  go_wp2
  go_ret
  exact ⟨rfl, HB2.out⟩
end Go.Proofs.Ytoalfffecboahaa
