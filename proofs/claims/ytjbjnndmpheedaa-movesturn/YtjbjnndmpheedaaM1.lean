/-
  The contracts of place's 'Scratch', 'isOfRegs', 'IsReg', 'IsSlot', 'IsScratch', and of mach's 'mayHold', 'mayMove', 'move', 'isSpot', 'isBehind': what each answers; none writes to what was there.
  The contracts of 'blockPlaces', 'places', 'edits' and 'Check' of mach (P5.1, P5.2).
  A move's and an edit's cells.
-/
import Derived.Test.YtjbjnndmpheedaaM0
import Derived.Deep.RegionHeld3
import Derived.Deep.QuietTactic
import Derived.BigQuiet
import Derived.Test.YtjbjnndmpheedaaC1
import Derived.Test.YtjbjnndmpheedaaA5
import Derived.Deep.DeepCutAuto
import Derived.Deep.CutBlock
import Derived.Test.YtjbjnndmpheedaaF9s
import Derived.Test.YtjbjnndmpheedaaF7
namespace Go.Proofs.Ytjbjnndmpheedaa
open Go.RowKit
set_option linter.unusedVariables false

theorem topO (w : World) (a : Array Value) (t : TypeId) (i : Nat) : (w.alloc (.cells a t)).cell? ⟨w.heap.size, i, none⟩ = a[i]? := by
  have h : (w.alloc (.cells a t)).heap[w.heap.size]? = some (.cells a t) := by
    show (w.heap.push _)[_]? = _
    simp
  simp only [World.cell?, h]
  simp
theorem twoO (w : World) (a b : Array Value) (ta tb : TypeId) :
    (∀ i, ((w.alloc (.cells a ta)).alloc (.cells b tb)).cell? ⟨w.heap.size, i, none⟩ = a[i]?) ∧
    (∀ i, ((w.alloc (.cells a ta)).alloc (.cells b tb)).cell? ⟨w.heap.size + 1, i, none⟩ = b[i]?) := by
  have z1 : (w.alloc (.cells a ta)).heap.size = w.heap.size + 1 := by simp
  refine ⟨fun i => ?_, fun i => ?_⟩
  · rw [old_cell _ _ _ _ (by omega)]; exact topO w a ta i
  · rw [← z1]; exact topO _ b tb i
def regsR (r0 r1 : Int) : Int → Int := fun c => if c = 0 then r0 else r1
def ofRegsB (p : Pl) : Bool := decide (p.kind = 1) && decide (0 ≤ p.cls) && decide (p.cls < 2)
def regB (r0 r1 : Int) (p : Pl) : Bool := ofRegsB p && decide (0 ≤ p.n) && decide (p.n < regsR r0 r1 p.cls)
def slotB (fr : Int) (p : Pl) : Bool := decide (p.kind = 2) && decide (p.cls = 0) && decide (0 ≤ p.n) && decide (p.n < fr)
set_option maxHeartbeats 2000000 in
theorem scratch_any (c r0 r1 : Int) (hc : c = 0 ∨ c = 1) (w : World) :
    Calls Try.prog 93 #[.int .i64 c, .agg #[.int .i64 r0, .int .i64 r1]] w fun z w' => z = .returned (.agg #[.int .i64 1, .int .i64 c, .int .i64 (regsR r0 r1 c)]) ∧ Below w.heap.size w w' := by
  have hb : ∀ x y, Below w.heap.size w ((w.alloc x).alloc y) := fun x y => ((Below.refl _ _).alloc (Nat.le_refl _) _).alloc (by simp) _
  rcases hc with rfl | rfl
  · go_enter Try.func93, Try.ntmps93
    go_wp2
    refine bodyPost_ret (v := .agg #[.int .i64 1, .int .i64 0, .int .i64 r0]) (by simp [results, Try.results93, go_sem]) rfl ⟨rfl, hb _ _⟩
  · go_enter Try.func93, Try.ntmps93
    go_wp2
    refine bodyPost_ret (v := .agg #[.int .i64 1, .int .i64 1, .int .i64 r1]) (by simp [results, Try.results93, go_sem]) rfl ⟨rfl, hb _ _⟩
set_option maxHeartbeats 2000000 in
theorem isOfRegs_any (k c n : Int) (w : World) :
    Calls Try.prog 92 #[.agg #[.int .i64 k, .int .i64 c, .int .i64 n]] w fun e w' => e = .returned (.bool (ofRegsB ⟨k, c, n⟩)) ∧ Below w.heap.size w w' := by
  have hb : Below w.heap.size w (w.alloc (.cells #[.int .i64 k, .int .i64 c, .int .i64 n] 37)) := (Below.refl _ _).alloc (Nat.le_refl _) _
  by_cases h0 : k = 1
  rotate_left
  · have g0 : (k == 1) = false := by simpa using h0
    have H : Hid (false = ofRegsB ⟨k, c, n⟩) := by show _ = _; simp [ofRegsB]; omega
    clear h0
    go_enter Try.func92, Try.ntmps92
    go_wp2
    go_ret
    exact ⟨ret_bool H.out, hb⟩
  subst h0
  by_cases h1 : 0 ≤ c
  rotate_left
  · have g1 : decide (0 ≤ c) = false := by simpa using h1
    have H : Hid (false = ofRegsB ⟨1, c, n⟩) := by show _ = _; simp [ofRegsB]; omega
    clear h1
    go_enter Try.func92, Try.ntmps92
    go_wp2
    go_ret
    exact ⟨ret_bool H.out, hb⟩
  have g1 : decide (0 ≤ c) = true := by simpa using h1
  have H : Hid (decide (c < 2) = ofRegsB ⟨1, c, n⟩) := by show _ = _; simp only [ofRegsB, h1, decide_true, Bool.true_and]
  clear h1
  go_enter Try.func92, Try.ntmps92
  go_wp2
  go_ret
  exact ⟨ret_bool H.out, hb⟩

set_option maxHeartbeats 2000000 in
theorem isSlot_any (k c n fr : Int) (w : World) :
    Calls Try.prog 78 #[.agg #[.int .i64 k, .int .i64 c, .int .i64 n], .int .i64 fr] w fun e w' => e = .returned (.bool (slotB fr ⟨k, c, n⟩)) ∧ Below w.heap.size w w' := by
  have hb : Below w.heap.size w (w.alloc (.cells #[.int .i64 k, .int .i64 c, .int .i64 n] 37)) := (Below.refl _ _).alloc (Nat.le_refl _) _
  by_cases h0 : k = 2
  rotate_left
  · have g0 : (k == 2) = false := by simpa using h0
    have H : Hid (false = slotB fr ⟨k, c, n⟩) := by show _ = _; simp [slotB]; omega
    clear h0
    go_enter Try.func78, Try.ntmps78
    go_wp2
    go_ret
    exact ⟨ret_bool H.out, hb⟩
  subst h0
  by_cases h1 : c = 0
  rotate_left
  · have g1 : (c == 0) = false := by simpa using h1
    have H : Hid (false = slotB fr ⟨2, c, n⟩) := by show _ = _; simp [slotB]; omega
    clear h1
    go_enter Try.func78, Try.ntmps78
    go_wp2
    go_ret
    exact ⟨ret_bool H.out, hb⟩
  subst h1
  by_cases h2 : 0 ≤ n
  rotate_left
  · have g2 : decide (0 ≤ n) = false := by simpa using h2
    have H : Hid (false = slotB fr ⟨2, 0, n⟩) := by show _ = _; simp [slotB]; omega
    clear h2
    go_enter Try.func78, Try.ntmps78
    go_wp2
    go_ret
    exact ⟨ret_bool H.out, hb⟩
  have g2 : decide (0 ≤ n) = true := by simpa using h2
  have H : Hid (decide (n < fr) = slotB fr ⟨2, 0, n⟩) := by show _ = _; simp only [slotB, h2, decide_true, Bool.true_and]
  clear h2
  go_enter Try.func78, Try.ntmps78
  go_wp2
  go_ret
  exact ⟨ret_bool H.out, hb⟩

set_option maxHeartbeats 4000000 in
theorem isReg_any (k c n r0 r1 : Int) (w : World) :
    Calls Try.prog 77 #[.agg #[.int .i64 k, .int .i64 c, .int .i64 n], .agg #[.int .i64 r0, .int .i64 r1]] w fun e w' => e = .returned (.bool (regB r0 r1 ⟨k, c, n⟩)) ∧ Below w.heap.size w w' := by
  obtain ⟨W, hW⟩ : ∃ W, W = (w.alloc (.cells #[.int .i64 k, .int .i64 c, .int .i64 n] 37)).alloc (.cells #[.int .i64 r0, .int .i64 r1] 28) := ⟨_, rfl⟩
  have hbw : Below w.heap.size w W := by rw [hW]; exact ((Below.refl _ _).alloc (Nat.le_refl _) _).alloc (by simp) _
  have zW : w.heap.size + 1 < W.heap.size := by rw [hW]; simp
  obtain ⟨t0, t1⟩ := twoO w #[.int .i64 k, .int .i64 c, .int .i64 n] #[.int .i64 r0, .int .i64 r1] 37 28
  have p0 : W.cell? ⟨w.heap.size, 0, none⟩ = some (.int .i64 k) := by rw [hW]; exact t0 0
  have p1 : W.cell? ⟨w.heap.size, 1, none⟩ = some (.int .i64 c) := by rw [hW]; exact t0 1
  have p2 : W.cell? ⟨w.heap.size, 2, none⟩ = some (.int .i64 n) := by rw [hW]; exact t0 2
  have m0 : W.cell? ⟨w.heap.size + 1, 0, none⟩ = some (.int .i64 r0) := by rw [hW]; exact t1 0
  have m1 : W.cell? ⟨w.heap.size + 1, 1, none⟩ = some (.int .i64 r1) := by rw [hW]; exact t1 1
  have HS : Hid (∀ w', Below W.heap.size W w' → (fun w' => w'.cell? ⟨w.heap.size, 0, none⟩ = some (.int .i64 k) ∧ w'.cell? ⟨w.heap.size, 1, none⟩ = some (.int .i64 c) ∧ w'.cell? ⟨w.heap.size, 2, none⟩ = some (.int .i64 n) ∧ w'.cell? ⟨w.heap.size + 1, 0, none⟩ = some (.int .i64 r0) ∧ w'.cell? ⟨w.heap.size + 1, 1, none⟩ = some (.int .i64 r1) ∧ Below W.heap.size W w') w') := fun w' hh => ⟨(hh.cell (by simp; omega)).trans p0, (hh.cell (by simp; omega)).trans p1, (hh.cell (by simp; omega)).trans p2, (hh.cell (by simp; omega)).trans m0, (hh.cell (by simp; omega)).trans m1, hh⟩
  have HW : Hid (W = (w.alloc (.cells #[.int .i64 k, .int .i64 c, .int .i64 n] 37)).alloc (.cells #[.int .i64 r0, .int .i64 r1] 28)) := hW
  clear hW t0 t1
  have HC := isOfRegs_any k c n W.drew
  cases hof : ofRegsB ⟨k, c, n⟩
  · have H : Hid (false = regB r0 r1 ⟨k, c, n⟩) := by show _ = _; simp only [regB, hof, Bool.false_and]
    rw [hof] at HC
    clear hof
    go_enter Try.func77, Try.ntmps77
    go_upto_region 1 with fail
    rw [← HW.out]
    clear p0 p1 p2 m0 m1
    refine wp_region_X (fun w' => w'.cell? ⟨w.heap.size, 0, none⟩ = some (.int .i64 k) ∧ w'.cell? ⟨w.heap.size, 1, none⟩ = some (.int .i64 c) ∧ w'.cell? ⟨w.heap.size, 2, none⟩ = some (.int .i64 n) ∧ w'.cell? ⟨w.heap.size + 1, 0, none⟩ = some (.int .i64 r0) ∧ w'.cell? ⟨w.heap.size + 1, 1, none⟩ = some (.int .i64 r1) ∧ Below W.heap.size W w') 99 (by kernel_rfl) (HS.out _ (Below.refl _ _).drew) (fun hHeld => ?_)
    refine wpXt (v := ?_) 0 rfl (by kernel_rfl) (fun _ _ _ h => h) (by rfl) ?_ hHeld ?_
    rotate_left
    · intro w' hSw
      go_simp <;> with_reducible rfl
    try simp only [Act.put, List.setIfInBounds_toArray, List.set_cons_zero, List.set_cons_succ]
    refine wpXs 1 rfl (by kernel_rfl) (fun K hK => ?_)
    go_simp
    refine HC.mono ?_
    clear HC
    rintro e w1 ⟨rfl, hb1⟩
    have hq := ((Below.refl W.heap.size W).drew).trans hb1
    clear hb1
    refine hK.out _ _ (HS.out _ hq) (fun hHeld => ?_)
    clear hK K
    try simp only [Act.put, List.setIfInBounds_toArray, List.set_cons_zero, List.set_cons_succ]
    refine wpXt (v := ?_) 2 rfl (by kernel_rfl) (fun _ _ _ h => h) (by rfl) ?_ hHeld ?_
    rotate_left
    · intro w' hSw
      go_simp <;> with_reducible rfl
    try simp only [Act.put, List.setIfInBounds_toArray, List.set_cons_zero, List.set_cons_succ]
    refine wpXk 3 rfl (by kernel_rfl) (fun _ _ _ h => h) (by rfl) hHeld ?_
    try simp only [Act.put, List.setIfInBounds_toArray, List.set_cons_zero, List.set_cons_succ]
    refine wpXk 4 rfl (by kernel_rfl) (fun _ _ _ h => h) (by rfl) hHeld ?_
    try simp only [Act.put, List.setIfInBounds_toArray, List.set_cons_zero, List.set_cons_succ]
    refine wpXk 5 rfl (by kernel_rfl) (fun _ _ _ h => h) (by rfl) hHeld ?_
    try simp only [Act.put, List.setIfInBounds_toArray, List.set_cons_zero, List.set_cons_succ]
    refine wpXt (v := ?_) 6 rfl (by kernel_rfl) (fun _ _ _ h => h) (by rfl) ?_ hHeld ?_
    rotate_left
    · intro w' hSw
      go_simp <;> with_reducible rfl
    try simp only [Act.put, List.setIfInBounds_toArray, List.set_cons_zero, List.set_cons_succ]
    refine wpXt (v := ?_) 7 rfl (by kernel_rfl) (fun _ _ _ h => h) (by rfl) ?_ hHeld ?_
    rotate_left
    · intro w' hSw
      go_simp <;> with_reducible rfl
    try simp only [Act.put, List.setIfInBounds_toArray, List.set_cons_zero, List.set_cons_succ]
    refine wpXk 8 rfl (by kernel_rfl) (fun _ _ _ h => h) (by rfl) hHeld ?_
    try simp only [Act.put, List.setIfInBounds_toArray, List.set_cons_zero, List.set_cons_succ]
    refine wpXk 9 rfl (by kernel_rfl) (fun _ _ _ h => h) (by rfl) hHeld ?_
    try simp only [Act.put, List.setIfInBounds_toArray, List.set_cons_zero, List.set_cons_succ]
    refine wpXk 10 rfl (by kernel_rfl) (fun _ _ _ h => h) (by rfl) hHeld ?_
    try simp only [Act.put, List.setIfInBounds_toArray, List.set_cons_zero, List.set_cons_succ]
    refine wpXk 11 rfl (by kernel_rfl) (fun _ _ _ h => h) (by rfl) hHeld ?_
    try simp only [Act.put, List.setIfInBounds_toArray, List.set_cons_zero, List.set_cons_succ]
    refine wpXk 12 rfl (by kernel_rfl) (fun _ _ _ h => h) (by rfl) hHeld ?_
    try simp only [Act.put, List.setIfInBounds_toArray, List.set_cons_zero, List.set_cons_succ]
    refine wpXk 13 rfl (by kernel_rfl) (fun _ _ _ h => h) (by rfl) hHeld ?_
    try simp only [Act.put, List.setIfInBounds_toArray, List.set_cons_zero, List.set_cons_succ]
    refine wpXk 14 rfl (by kernel_rfl) (fun _ _ _ h => h) (by rfl) hHeld ?_
    try simp only [Act.put, List.setIfInBounds_toArray, List.set_cons_zero, List.set_cons_succ]
    refine wpXk 15 rfl (by kernel_rfl) (fun _ _ _ h => h) (by rfl) hHeld ?_
    try simp only [Act.put, List.setIfInBounds_toArray, List.set_cons_zero, List.set_cons_succ]
    refine wpXt (v := ?_) 16 rfl (by kernel_rfl) (fun _ _ _ h => h) (by rfl) ?_ hHeld ?_
    rotate_left
    · intro w' hSw
      go_simp <;> with_reducible rfl
    try simp only [Act.put, List.setIfInBounds_toArray, List.set_cons_zero, List.set_cons_succ]
    refine wpXt (v := ?_) 17 rfl (by kernel_rfl) (fun _ _ _ h => h) (by rfl) ?_ hHeld ?_
    rotate_left
    · intro w' hSw
      go_simp <;> with_reducible rfl
    try simp only [Act.put, List.setIfInBounds_toArray, List.set_cons_zero, List.set_cons_succ]
    refine wpAnyX_done (by kernel_rfl) ?_ _
    go_wp2
    go_ret
    exact ⟨ret_bool H.out, hbw.trans (hq.mono hbw.size)⟩
  · by_cases hn : 0 ≤ n
    rotate_left
    · have g : decide (0 ≤ n) = false := by simpa using hn
      have H : Hid (false = regB r0 r1 ⟨k, c, n⟩) := by show _ = _; simp only [regB, hof, g, Bool.true_and, Bool.false_and]
      clear hn
      rw [hof] at HC
      clear hof
      go_enter Try.func77, Try.ntmps77
      go_upto_region 1 with fail
      rw [← HW.out]
      clear p0 p1 p2 m0 m1
      refine wp_region_X (fun w' => w'.cell? ⟨w.heap.size, 0, none⟩ = some (.int .i64 k) ∧ w'.cell? ⟨w.heap.size, 1, none⟩ = some (.int .i64 c) ∧ w'.cell? ⟨w.heap.size, 2, none⟩ = some (.int .i64 n) ∧ w'.cell? ⟨w.heap.size + 1, 0, none⟩ = some (.int .i64 r0) ∧ w'.cell? ⟨w.heap.size + 1, 1, none⟩ = some (.int .i64 r1) ∧ Below W.heap.size W w') 99 (by kernel_rfl) (HS.out _ (Below.refl _ _).drew) (fun hHeld => ?_)
      refine wpXt (v := ?_) 0 rfl (by kernel_rfl) (fun _ _ _ h => h) (by rfl) ?_ hHeld ?_
      rotate_left
      · intro w' hSw
        go_simp <;> with_reducible rfl
      try simp only [Act.put, List.setIfInBounds_toArray, List.set_cons_zero, List.set_cons_succ]
      refine wpXs 1 rfl (by kernel_rfl) (fun K hK => ?_)
      go_simp
      refine HC.mono ?_
      clear HC
      rintro e w1 ⟨rfl, hb1⟩
      have hq := ((Below.refl W.heap.size W).drew).trans hb1
      clear hb1
      refine hK.out _ _ (HS.out _ hq) (fun hHeld => ?_)
      clear hK K
      try simp only [Act.put, List.setIfInBounds_toArray, List.set_cons_zero, List.set_cons_succ]
      refine wpXt (v := ?_) 2 rfl (by kernel_rfl) (fun _ _ _ h => h) (by rfl) ?_ hHeld ?_
      rotate_left
      · intro w' hSw
        go_simp <;> with_reducible rfl
      try simp only [Act.put, List.setIfInBounds_toArray, List.set_cons_zero, List.set_cons_succ]
      refine wpXt (v := ?_) 3 rfl (by kernel_rfl) (fun _ _ _ h => h) (by rfl) ?_ hHeld ?_
      rotate_left
      · intro w' hSw
        go_simp <;> with_reducible rfl
      try simp only [Act.put, List.setIfInBounds_toArray, List.set_cons_zero, List.set_cons_succ]
      refine wpXt (v := ?_) 4 rfl (by kernel_rfl) (fun _ _ _ h => h) (by rfl) ?_ hHeld ?_
      rotate_left
      · intro w' hSw
        go_simp <;> with_reducible rfl
      try simp only [Act.put, List.setIfInBounds_toArray, List.set_cons_zero, List.set_cons_succ]
      refine wpXt (v := ?_) 5 rfl (by kernel_rfl) (fun _ _ _ h => h) (by rfl) ?_ hHeld ?_
      rotate_left
      · intro w' hSw
        go_simp <;> with_reducible rfl
      try simp only [Act.put, List.setIfInBounds_toArray, List.set_cons_zero, List.set_cons_succ]
      refine wpXt (v := ?_) 6 rfl (by kernel_rfl) (fun _ _ _ h => h) (by rfl) ?_ hHeld ?_
      rotate_left
      · intro w' hSw
        go_simp <;> with_reducible rfl
      try simp only [Act.put, List.setIfInBounds_toArray, List.set_cons_zero, List.set_cons_succ]
      refine wpXt (v := ?_) 7 rfl (by kernel_rfl) (fun _ _ _ h => h) (by rfl) ?_ hHeld ?_
      rotate_left
      · intro w' hSw
        go_simp <;> with_reducible rfl
      try simp only [Act.put, List.setIfInBounds_toArray, List.set_cons_zero, List.set_cons_succ]
      refine wpXk 8 rfl (by kernel_rfl) (fun _ _ _ h => h) (by rfl) hHeld ?_
      try simp only [Act.put, List.setIfInBounds_toArray, List.set_cons_zero, List.set_cons_succ]
      refine wpXk 9 rfl (by kernel_rfl) (fun _ _ _ h => h) (by rfl) hHeld ?_
      try simp only [Act.put, List.setIfInBounds_toArray, List.set_cons_zero, List.set_cons_succ]
      refine wpXk 10 rfl (by kernel_rfl) (fun _ _ _ h => h) (by rfl) hHeld ?_
      try simp only [Act.put, List.setIfInBounds_toArray, List.set_cons_zero, List.set_cons_succ]
      refine wpXk 11 rfl (by kernel_rfl) (fun _ _ _ h => h) (by rfl) hHeld ?_
      try simp only [Act.put, List.setIfInBounds_toArray, List.set_cons_zero, List.set_cons_succ]
      refine wpXk 12 rfl (by kernel_rfl) (fun _ _ _ h => h) (by rfl) hHeld ?_
      try simp only [Act.put, List.setIfInBounds_toArray, List.set_cons_zero, List.set_cons_succ]
      refine wpXk 13 rfl (by kernel_rfl) (fun _ _ _ h => h) (by rfl) hHeld ?_
      try simp only [Act.put, List.setIfInBounds_toArray, List.set_cons_zero, List.set_cons_succ]
      refine wpXk 14 rfl (by kernel_rfl) (fun _ _ _ h => h) (by rfl) hHeld ?_
      try simp only [Act.put, List.setIfInBounds_toArray, List.set_cons_zero, List.set_cons_succ]
      refine wpXk 15 rfl (by kernel_rfl) (fun _ _ _ h => h) (by rfl) hHeld ?_
      try simp only [Act.put, List.setIfInBounds_toArray, List.set_cons_zero, List.set_cons_succ]
      refine wpXt (v := ?_) 16 rfl (by kernel_rfl) (fun _ _ _ h => h) (by rfl) ?_ hHeld ?_
      rotate_left
      · intro w' hSw
        go_simp <;> with_reducible rfl
      try simp only [Act.put, List.setIfInBounds_toArray, List.set_cons_zero, List.set_cons_succ]
      refine wpXt (v := ?_) 17 rfl (by kernel_rfl) (fun _ _ _ h => h) (by rfl) ?_ hHeld ?_
      rotate_left
      · intro w' hSw
        go_simp <;> with_reducible rfl
      try simp only [Act.put, List.setIfInBounds_toArray, List.set_cons_zero, List.set_cons_succ]
      refine wpAnyX_done (by kernel_rfl) ?_ _
      go_wp2
      go_ret
      exact ⟨ret_bool H.out, hbw.trans (hq.mono hbw.size)⟩
    · have g : decide (0 ≤ n) = true := by simpa using hn
      have hcc : c = 0 ∨ c = 1 := by
        simp only [ofRegsB, Bool.and_eq_true, decide_eq_true_eq] at hof
        omega
      have H : Hid (decide (n < regsR r0 r1 c) = regB r0 r1 ⟨k, c, n⟩) := by show _ = _; simp only [regB, hof, g, Bool.true_and]
      rw [hof] at HC
      clear hn hof
      rcases hcc with rfl | rfl
      · go_enter Try.func77, Try.ntmps77
        go_upto_region 1 with fail
        rw [← HW.out]
        clear p0 p1 p2 m0 m1
        refine wp_region_X (fun w' => w'.cell? ⟨w.heap.size, 0, none⟩ = some (.int .i64 k) ∧ w'.cell? ⟨w.heap.size, 1, none⟩ = some (.int .i64 0) ∧ w'.cell? ⟨w.heap.size, 2, none⟩ = some (.int .i64 n) ∧ w'.cell? ⟨w.heap.size + 1, 0, none⟩ = some (.int .i64 r0) ∧ w'.cell? ⟨w.heap.size + 1, 1, none⟩ = some (.int .i64 r1) ∧ Below W.heap.size W w') 99 (by kernel_rfl) (HS.out _ (Below.refl _ _).drew) (fun hHeld => ?_)
        refine wpXt (v := ?_) 0 rfl (by kernel_rfl) (fun _ _ _ h => h) (by rfl) ?_ hHeld ?_
        rotate_left
        · intro w' hSw
          go_simp <;> with_reducible rfl
        try simp only [Act.put, List.setIfInBounds_toArray, List.set_cons_zero, List.set_cons_succ]
        refine wpXs 1 rfl (by kernel_rfl) (fun K hK => ?_)
        go_simp
        refine HC.mono ?_
        clear HC
        rintro e w1 ⟨rfl, hb1⟩
        have hq := ((Below.refl W.heap.size W).drew).trans hb1
        clear hb1
        refine hK.out _ _ (HS.out _ hq) (fun hHeld => ?_)
        clear hK K
        try simp only [Act.put, List.setIfInBounds_toArray, List.set_cons_zero, List.set_cons_succ]
        refine wpXt (v := ?_) 2 rfl (by kernel_rfl) (fun _ _ _ h => h) (by rfl) ?_ hHeld ?_
        rotate_left
        · intro w' hSw
          go_simp <;> with_reducible rfl
        try simp only [Act.put, List.setIfInBounds_toArray, List.set_cons_zero, List.set_cons_succ]
        refine wpXt (v := ?_) 3 rfl (by kernel_rfl) (fun _ _ _ h => h) (by rfl) ?_ hHeld ?_
        rotate_left
        · intro w' hSw
          go_simp <;> with_reducible rfl
        try simp only [Act.put, List.setIfInBounds_toArray, List.set_cons_zero, List.set_cons_succ]
        refine wpXt (v := ?_) 4 rfl (by kernel_rfl) (fun _ _ _ h => h) (by rfl) ?_ hHeld ?_
        rotate_left
        · intro w' hSw
          go_simp <;> with_reducible rfl
        try simp only [Act.put, List.setIfInBounds_toArray, List.set_cons_zero, List.set_cons_succ]
        refine wpXt (v := ?_) 5 rfl (by kernel_rfl) (fun _ _ _ h => h) (by rfl) ?_ hHeld ?_
        rotate_left
        · intro w' hSw
          go_simp <;> with_reducible rfl
        try simp only [Act.put, List.setIfInBounds_toArray, List.set_cons_zero, List.set_cons_succ]
        refine wpXt (v := ?_) 6 rfl (by kernel_rfl) (fun _ _ _ h => h) (by rfl) ?_ hHeld ?_
        rotate_left
        · intro w' hSw
          go_simp <;> with_reducible rfl
        try simp only [Act.put, List.setIfInBounds_toArray, List.set_cons_zero, List.set_cons_succ]
        refine wpXt (v := ?_) 7 rfl (by kernel_rfl) (fun _ _ _ h => h) (by rfl) ?_ hHeld ?_
        rotate_left
        · intro w' hSw
          go_simp <;> with_reducible rfl
        try simp only [Act.put, List.setIfInBounds_toArray, List.set_cons_zero, List.set_cons_succ]
        refine wpXt (v := ?_) 8 rfl (by kernel_rfl) (fun _ _ _ h => h) (by rfl) ?_ hHeld ?_
        rotate_left
        · intro w' hSw
          go_simp <;> with_reducible rfl
        try simp only [Act.put, List.setIfInBounds_toArray, List.set_cons_zero, List.set_cons_succ]
        refine wpXt (v := ?_) 9 rfl (by kernel_rfl) (fun _ _ _ h => h) (by rfl) ?_ hHeld ?_
        rotate_left
        · intro w' hSw
          go_simp <;> with_reducible rfl
        try simp only [Act.put, List.setIfInBounds_toArray, List.set_cons_zero, List.set_cons_succ]
        refine wpXt (v := ?_) 10 rfl (by kernel_rfl) (fun _ _ _ h => h) (by rfl) ?_ hHeld ?_
        rotate_left
        · intro w' hSw
          go_simp <;> with_reducible rfl
        try simp only [Act.put, List.setIfInBounds_toArray, List.set_cons_zero, List.set_cons_succ]
        refine wpXt (v := ?_) 11 rfl (by kernel_rfl) (fun _ _ _ h => h) (by rfl) ?_ hHeld ?_
        rotate_left
        · intro w' hSw
          go_simp <;> with_reducible rfl
        try simp only [Act.put, List.setIfInBounds_toArray, List.set_cons_zero, List.set_cons_succ]
        refine wpXt (v := ?_) 12 rfl (by kernel_rfl) (fun _ _ _ h => h) (by rfl) ?_ hHeld ?_
        rotate_left
        · intro w' hSw
          go_simp <;> with_reducible rfl
        try simp only [Act.put, List.setIfInBounds_toArray, List.set_cons_zero, List.set_cons_succ]
        refine wpXt (v := ?_) 13 rfl (by kernel_rfl) (fun _ _ _ h => h) (by rfl) ?_ hHeld ?_
        rotate_left
        · intro w' hSw
          go_simp <;> with_reducible rfl
        try simp only [Act.put, List.setIfInBounds_toArray, List.set_cons_zero, List.set_cons_succ]
        refine wpXt (v := ?_) 14 rfl (by kernel_rfl) (fun _ _ _ h => h) (by rfl) ?_ hHeld ?_
        rotate_left
        · intro w' hSw
          go_simp <;> with_reducible rfl
        try simp only [Act.put, List.setIfInBounds_toArray, List.set_cons_zero, List.set_cons_succ]
        refine wpXt (v := ?_) 15 rfl (by kernel_rfl) (fun _ _ _ h => h) (by rfl) ?_ hHeld ?_
        rotate_left
        · intro w' hSw
          go_simp <;> with_reducible rfl
        try simp only [Act.put, List.setIfInBounds_toArray, List.set_cons_zero, List.set_cons_succ]
        refine wpXt (v := ?_) 16 rfl (by kernel_rfl) (fun _ _ _ h => h) (by rfl) ?_ hHeld ?_
        rotate_left
        · intro w' hSw
          go_simp <;> with_reducible rfl
        try simp only [Act.put, List.setIfInBounds_toArray, List.set_cons_zero, List.set_cons_succ]
        refine wpXt (v := ?_) 17 rfl (by kernel_rfl) (fun _ _ _ h => h) (by rfl) ?_ hHeld ?_
        rotate_left
        · intro w' hSw
          go_simp <;> with_reducible rfl
        try simp only [Act.put, List.setIfInBounds_toArray, List.set_cons_zero, List.set_cons_succ]
        refine wpAnyX_done (by kernel_rfl) ?_ _
        go_wp2
        go_ret
        exact ⟨ret_bool H.out, hbw.trans (hq.mono hbw.size)⟩
      · go_enter Try.func77, Try.ntmps77
        go_upto_region 1 with fail
        rw [← HW.out]
        clear p0 p1 p2 m0 m1
        refine wp_region_X (fun w' => w'.cell? ⟨w.heap.size, 0, none⟩ = some (.int .i64 k) ∧ w'.cell? ⟨w.heap.size, 1, none⟩ = some (.int .i64 1) ∧ w'.cell? ⟨w.heap.size, 2, none⟩ = some (.int .i64 n) ∧ w'.cell? ⟨w.heap.size + 1, 0, none⟩ = some (.int .i64 r0) ∧ w'.cell? ⟨w.heap.size + 1, 1, none⟩ = some (.int .i64 r1) ∧ Below W.heap.size W w') 99 (by kernel_rfl) (HS.out _ (Below.refl _ _).drew) (fun hHeld => ?_)
        refine wpXt (v := ?_) 0 rfl (by kernel_rfl) (fun _ _ _ h => h) (by rfl) ?_ hHeld ?_
        rotate_left
        · intro w' hSw
          go_simp <;> with_reducible rfl
        try simp only [Act.put, List.setIfInBounds_toArray, List.set_cons_zero, List.set_cons_succ]
        refine wpXs 1 rfl (by kernel_rfl) (fun K hK => ?_)
        go_simp
        refine HC.mono ?_
        clear HC
        rintro e w1 ⟨rfl, hb1⟩
        have hq := ((Below.refl W.heap.size W).drew).trans hb1
        clear hb1
        refine hK.out _ _ (HS.out _ hq) (fun hHeld => ?_)
        clear hK K
        try simp only [Act.put, List.setIfInBounds_toArray, List.set_cons_zero, List.set_cons_succ]
        refine wpXt (v := ?_) 2 rfl (by kernel_rfl) (fun _ _ _ h => h) (by rfl) ?_ hHeld ?_
        rotate_left
        · intro w' hSw
          go_simp <;> with_reducible rfl
        try simp only [Act.put, List.setIfInBounds_toArray, List.set_cons_zero, List.set_cons_succ]
        refine wpXt (v := ?_) 3 rfl (by kernel_rfl) (fun _ _ _ h => h) (by rfl) ?_ hHeld ?_
        rotate_left
        · intro w' hSw
          go_simp <;> with_reducible rfl
        try simp only [Act.put, List.setIfInBounds_toArray, List.set_cons_zero, List.set_cons_succ]
        refine wpXt (v := ?_) 4 rfl (by kernel_rfl) (fun _ _ _ h => h) (by rfl) ?_ hHeld ?_
        rotate_left
        · intro w' hSw
          go_simp <;> with_reducible rfl
        try simp only [Act.put, List.setIfInBounds_toArray, List.set_cons_zero, List.set_cons_succ]
        refine wpXt (v := ?_) 5 rfl (by kernel_rfl) (fun _ _ _ h => h) (by rfl) ?_ hHeld ?_
        rotate_left
        · intro w' hSw
          go_simp <;> with_reducible rfl
        try simp only [Act.put, List.setIfInBounds_toArray, List.set_cons_zero, List.set_cons_succ]
        refine wpXt (v := ?_) 6 rfl (by kernel_rfl) (fun _ _ _ h => h) (by rfl) ?_ hHeld ?_
        rotate_left
        · intro w' hSw
          go_simp <;> with_reducible rfl
        try simp only [Act.put, List.setIfInBounds_toArray, List.set_cons_zero, List.set_cons_succ]
        refine wpXt (v := ?_) 7 rfl (by kernel_rfl) (fun _ _ _ h => h) (by rfl) ?_ hHeld ?_
        rotate_left
        · intro w' hSw
          go_simp <;> with_reducible rfl
        try simp only [Act.put, List.setIfInBounds_toArray, List.set_cons_zero, List.set_cons_succ]
        refine wpXt (v := ?_) 8 rfl (by kernel_rfl) (fun _ _ _ h => h) (by rfl) ?_ hHeld ?_
        rotate_left
        · intro w' hSw
          go_simp <;> with_reducible rfl
        try simp only [Act.put, List.setIfInBounds_toArray, List.set_cons_zero, List.set_cons_succ]
        refine wpXt (v := ?_) 9 rfl (by kernel_rfl) (fun _ _ _ h => h) (by rfl) ?_ hHeld ?_
        rotate_left
        · intro w' hSw
          go_simp <;> with_reducible rfl
        try simp only [Act.put, List.setIfInBounds_toArray, List.set_cons_zero, List.set_cons_succ]
        refine wpXt (v := ?_) 10 rfl (by kernel_rfl) (fun _ _ _ h => h) (by rfl) ?_ hHeld ?_
        rotate_left
        · intro w' hSw
          go_simp <;> with_reducible rfl
        try simp only [Act.put, List.setIfInBounds_toArray, List.set_cons_zero, List.set_cons_succ]
        refine wpXt (v := ?_) 11 rfl (by kernel_rfl) (fun _ _ _ h => h) (by rfl) ?_ hHeld ?_
        rotate_left
        · intro w' hSw
          go_simp <;> with_reducible rfl
        try simp only [Act.put, List.setIfInBounds_toArray, List.set_cons_zero, List.set_cons_succ]
        refine wpXt (v := ?_) 12 rfl (by kernel_rfl) (fun _ _ _ h => h) (by rfl) ?_ hHeld ?_
        rotate_left
        · intro w' hSw
          go_simp <;> with_reducible rfl
        try simp only [Act.put, List.setIfInBounds_toArray, List.set_cons_zero, List.set_cons_succ]
        refine wpXt (v := ?_) 13 rfl (by kernel_rfl) (fun _ _ _ h => h) (by rfl) ?_ hHeld ?_
        rotate_left
        · intro w' hSw
          go_simp <;> with_reducible rfl
        try simp only [Act.put, List.setIfInBounds_toArray, List.set_cons_zero, List.set_cons_succ]
        refine wpXt (v := ?_) 14 rfl (by kernel_rfl) (fun _ _ _ h => h) (by rfl) ?_ hHeld ?_
        rotate_left
        · intro w' hSw
          go_simp <;> with_reducible rfl
        try simp only [Act.put, List.setIfInBounds_toArray, List.set_cons_zero, List.set_cons_succ]
        refine wpXt (v := ?_) 15 rfl (by kernel_rfl) (fun _ _ _ h => h) (by rfl) ?_ hHeld ?_
        rotate_left
        · intro w' hSw
          go_simp <;> with_reducible rfl
        try simp only [Act.put, List.setIfInBounds_toArray, List.set_cons_zero, List.set_cons_succ]
        refine wpXt (v := ?_) 16 rfl (by kernel_rfl) (fun _ _ _ h => h) (by rfl) ?_ hHeld ?_
        rotate_left
        · intro w' hSw
          go_simp <;> with_reducible rfl
        try simp only [Act.put, List.setIfInBounds_toArray, List.set_cons_zero, List.set_cons_succ]
        refine wpXt (v := ?_) 17 rfl (by kernel_rfl) (fun _ _ _ h => h) (by rfl) ?_ hHeld ?_
        rotate_left
        · intro w' hSw
          go_simp <;> with_reducible rfl
        try simp only [Act.put, List.setIfInBounds_toArray, List.set_cons_zero, List.set_cons_succ]
        refine wpAnyX_done (by kernel_rfl) ?_ _
        go_wp2
        go_ret
        exact ⟨ret_bool H.out, hbw.trans (hq.mono hbw.size)⟩

theorem isReg_eq (p : Pl) (r0 r1 : Int) : isRegB p r0 r1 = regB r0 r1 p := by
  apply Bool.eq_iff_iff.2
  unfold isRegB regB ofRegsB isClassB regsOf regsR
  simp only [Bool.and_eq_true, decide_eq_true_eq]
  exact ⟨fun h => ⟨⟨⟨⟨h.1.1.1, by omega⟩, by omega⟩, h.1.2⟩, h.2⟩, fun h => ⟨⟨⟨h.1.1.1.1, by omega⟩, h.1.2⟩, h.2⟩⟩
theorem isReg_is (p : Pl) (r0 r1 : Int) (b : Bool) (h : isRegB p r0 r1 = b) (w : World) :
    Calls Try.prog 77 #[.agg #[.int .i64 p.kind, .int .i64 p.cls, .int .i64 p.n], .agg #[.int .i64 r0, .int .i64 r1]] w fun e w' => e = .returned (.bool b) ∧ Below w.heap.size w w' := by
  rw [← h, isReg_eq]; exact isReg_any p.kind p.cls p.n r0 r1 w
theorem isSlot_is (p : Pl) (fr : Int) (b : Bool) (h : isSlotB p fr = b) (w : World) :
    Calls Try.prog 78 #[.agg #[.int .i64 p.kind, .int .i64 p.cls, .int .i64 p.n], .int .i64 fr] w fun e w' => e = .returned (.bool b) ∧ Below w.heap.size w w' := by
  rw [← h]; exact isSlot_any p.kind p.cls p.n fr w
theorem eqPlA (a b c d e f : Int) (w : World) : (binOp .eql 37 (.agg #[.int .i64 a, .int .i64 b, .int .i64 c]) (.agg #[.int .i64 d, .int .i64 e, .int .i64 f])).run Try.prog w = .ok (.bool (a == d && (b == e && c == f))) w := by
  have hS : Try.prog.underlying 37 = some (.struct (Try.prog.fieldsOf 37)) := by kernel_rfl
  have hp : Try.prog.stoodInHeld 37 = false := by kernel_rfl
  rw [run_eql_struct, show (10000 : Nat) = 9999 + 1 from rfl, run_equalIn_agg w 9999 37 _ _ hS hp]
  simp only [Program.fieldsOf, Try.underlying37]
  go_simp
  by_cases h1 : a = d <;> by_cases h2 : b = e <;> by_cases h3 : c = f <;> simp [h1, h2, h3]
theorem eqPlAG : Try.prog.eqGuardType Try.prog.depth 37 = false := by kernel_rfl
def scrB (r0 r1 : Int) (p : Pl) : Bool := ofRegsB p && decide (p.n = regsR r0 r1 p.cls)
/-- What a move may use: what an operand may, or a scratch. -/
theorem moveB_is (m0 m1 fr : Int) (p : Pl) (h0 : 0 ≤ m0) (h1 : 0 ≤ m1) : moveB m0 m1 fr p = (holdB m0 m1 fr p || scrB m0 m1 p) := by
  apply Bool.eq_iff_iff.2
  unfold moveB holdB scrB isRegB isSlotB ofRegsB isClassB regsOf regsR
  simp only [Bool.or_eq_true, Bool.and_eq_true, decide_eq_true_eq]
  constructor
  · rintro (⟨⟨⟨a, b⟩, c⟩, d⟩ | h)
    · by_cases hc : p.cls = 0
      · rw [if_pos hc] at *
        by_cases e : p.n < m0
        · exact Or.inl (Or.inl ⟨⟨⟨a, b⟩, c⟩, e⟩)
        · exact Or.inr ⟨⟨⟨a, by omega⟩, by omega⟩, by omega⟩
      · rw [if_neg hc] at *
        by_cases e : p.n < m1
        · exact Or.inl (Or.inl ⟨⟨⟨a, b⟩, c⟩, e⟩)
        · exact Or.inr ⟨⟨⟨a, by omega⟩, by omega⟩, by omega⟩
    · exact Or.inl (Or.inr h)
  · rintro ((⟨⟨⟨a, b⟩, c⟩, d⟩ | h) | ⟨⟨⟨a, b⟩, c⟩, d⟩)
    · refine Or.inl ⟨⟨⟨a, b⟩, c⟩, ?_⟩
      by_cases hc : p.cls = 0
      · rw [if_pos hc] at *; omega
      · rw [if_neg hc] at *; omega
    · exact Or.inr h
    · by_cases hc : p.cls = 0
      · rw [if_pos hc] at *
        exact Or.inl ⟨⟨⟨a, by omega⟩, by omega⟩, by omega⟩
      · rw [if_neg hc] at *
        exact Or.inl ⟨⟨⟨a, by omega⟩, by omega⟩, by omega⟩
set_option maxHeartbeats 4000000 in
theorem isScratch_is (p : Pl) (r0 r1 : Int) (b : Bool) (h : scrB r0 r1 p = b) (w : World) :
    Calls Try.prog 79 #[.agg #[.int .i64 p.kind, .int .i64 p.cls, .int .i64 p.n], .agg #[.int .i64 r0, .int .i64 r1]] w fun e w' => e = .returned (.bool b) ∧ Below w.heap.size w w' := by
  obtain ⟨W, hW⟩ : ∃ W, W = (w.alloc (.cells #[.int .i64 p.kind, .int .i64 p.cls, .int .i64 p.n] 37)).alloc (.cells #[.int .i64 r0, .int .i64 r1] 28) := ⟨_, rfl⟩
  have hbw : Below w.heap.size w W := by rw [hW]; exact ((Below.refl _ _).alloc (Nat.le_refl _) _).alloc (by simp) _
  have zW : w.heap.size + 1 < W.heap.size := by rw [hW]; simp
  obtain ⟨t0, t1⟩ := twoO w #[.int .i64 p.kind, .int .i64 p.cls, .int .i64 p.n] #[.int .i64 r0, .int .i64 r1] 37 28
  have p0_0 : W.cell? ⟨w.heap.size, 0, none⟩ = some (.int .i64 p.kind) := by rw [hW]; exact t0 0
  have p0_1 : W.cell? ⟨w.heap.size, 1, none⟩ = some (.int .i64 p.cls) := by rw [hW]; exact t0 1
  have p0_2 : W.cell? ⟨w.heap.size, 2, none⟩ = some (.int .i64 p.n) := by rw [hW]; exact t0 2
  have m1_0 : W.cell? ⟨w.heap.size + 1, 0, none⟩ = some (.int .i64 r0) := by rw [hW]; exact t1 0
  have m1_1 : W.cell? ⟨w.heap.size + 1, 1, none⟩ = some (.int .i64 r1) := by rw [hW]; exact t1 1
  have HS : Hid (∀ w', Below W.heap.size W w' → (fun w' => w'.cell? ⟨w.heap.size, 0, none⟩ = some (.int .i64 p.kind) ∧ w'.cell? ⟨w.heap.size, 1, none⟩ = some (.int .i64 p.cls) ∧ w'.cell? ⟨w.heap.size, 2, none⟩ = some (.int .i64 p.n) ∧ w'.cell? ⟨w.heap.size + 1, 0, none⟩ = some (.int .i64 r0) ∧ w'.cell? ⟨w.heap.size + 1, 1, none⟩ = some (.int .i64 r1) ∧ Below W.heap.size W w') w') := fun w' hh => ⟨(hh.cell (by simp; omega)).trans p0_0, (hh.cell (by simp; omega)).trans p0_1, (hh.cell (by simp; omega)).trans p0_2, (hh.cell (by simp; omega)).trans m1_0, (hh.cell (by simp; omega)).trans m1_1, hh⟩
  have HW : Hid (W = (w.alloc (.cells #[.int .i64 p.kind, .int .i64 p.cls, .int .i64 p.n] 37)).alloc (.cells #[.int .i64 r0, .int .i64 r1] 28)) := hW
  clear hW t0 t1
  have HC := isOfRegs_any p.kind p.cls p.n W.drew
  cases hof : ofRegsB p
  · have H : Hid (false = b) := by show _ = _; rw [← h]; simp only [scrB, hof, Bool.false_and]
    have hof' : ofRegsB ⟨p.kind, p.cls, p.n⟩ = false := hof
    rw [hof'] at HC
    clear hof hof' h
    go_enter Try.func79, Try.ntmps79
    go_upto_region 1 with fail
    rw [← HW.out]
    clear p0_0 p0_1 p0_2 m1_0 m1_1
    refine wp_region_X (fun w' => w'.cell? ⟨w.heap.size, 0, none⟩ = some (.int .i64 p.kind) ∧ w'.cell? ⟨w.heap.size, 1, none⟩ = some (.int .i64 p.cls) ∧ w'.cell? ⟨w.heap.size, 2, none⟩ = some (.int .i64 p.n) ∧ w'.cell? ⟨w.heap.size + 1, 0, none⟩ = some (.int .i64 r0) ∧ w'.cell? ⟨w.heap.size + 1, 1, none⟩ = some (.int .i64 r1) ∧ Below W.heap.size W w') 99 (by kernel_rfl) (HS.out _ (Below.refl _ _).drew) (fun hHeld => ?_)
    refine wpXt (v := ?_) 0 rfl (by kernel_rfl) (fun _ _ _ h => h) (by rfl) ?_ hHeld ?_
    rotate_left
    · intro w' hSw
      go_simp <;> with_reducible rfl
    try simp only [Act.put, List.setIfInBounds_toArray, List.set_cons_zero, List.set_cons_succ]
    refine wpXs 1 rfl (by kernel_rfl) (fun K hK => ?_)
    go_simp
    refine HC.mono ?_
    clear HC
    rintro e w1 ⟨rfl, hb1⟩
    have hq := ((Below.refl W.heap.size W).drew).trans hb1
    refine hK.out _ _ (HS.out _ hq) (fun hHeld => ?_)
    clear hK K
    try simp only [Act.put, List.setIfInBounds_toArray, List.set_cons_zero, List.set_cons_succ]
    refine wpXt (v := ?_) 2 rfl (by kernel_rfl) (fun _ _ _ h => h) (by rfl) ?_ hHeld ?_
    rotate_left
    · intro w' hSw
      go_simp <;> with_reducible rfl
    try simp only [Act.put, List.setIfInBounds_toArray, List.set_cons_zero, List.set_cons_succ]
    refine wpXk 3 rfl (by kernel_rfl) (fun _ _ _ h => h) (by rfl) hHeld ?_
    try simp only [Act.put, List.setIfInBounds_toArray, List.set_cons_zero, List.set_cons_succ]
    refine wpXk 4 rfl (by kernel_rfl) (fun _ _ _ h => h) (by rfl) hHeld ?_
    try simp only [Act.put, List.setIfInBounds_toArray, List.set_cons_zero, List.set_cons_succ]
    refine wpXk 5 rfl (by kernel_rfl) (fun _ _ _ h => h) (by rfl) hHeld ?_
    try simp only [Act.put, List.setIfInBounds_toArray, List.set_cons_zero, List.set_cons_succ]
    refine wpXk 6 rfl (by kernel_rfl) (fun _ _ _ h => h) (by rfl) hHeld ?_
    try simp only [Act.put, List.setIfInBounds_toArray, List.set_cons_zero, List.set_cons_succ]
    refine wpXk 7 rfl (by kernel_rfl) (fun _ _ _ h => h) (by rfl) hHeld ?_
    try simp only [Act.put, List.setIfInBounds_toArray, List.set_cons_zero, List.set_cons_succ]
    refine wpXk 8 rfl (by kernel_rfl) (fun _ _ _ h => h) (by rfl) hHeld ?_
    try simp only [Act.put, List.setIfInBounds_toArray, List.set_cons_zero, List.set_cons_succ]
    refine wpXt (v := ?_) 9 rfl (by kernel_rfl) (fun _ _ _ h => h) (by rfl) ?_ hHeld ?_
    rotate_left
    · intro w' hSw
      go_simp <;> with_reducible rfl
    try simp only [Act.put, List.setIfInBounds_toArray, List.set_cons_zero, List.set_cons_succ]
    refine wpXt (v := ?_) 10 rfl (by kernel_rfl) (fun _ _ _ h => h) (by rfl) ?_ hHeld ?_
    rotate_left
    · intro w' hSw
      go_simp <;> with_reducible rfl
    try simp only [Act.put, List.setIfInBounds_toArray, List.set_cons_zero, List.set_cons_succ]
    refine wpAnyX_done (by kernel_rfl) ?_ _
    go_wp2
    go_ret
    exact ⟨ret_bool H.out, hbw.trans (hq.mono hbw.size)⟩
  · have hc : p.cls = 0 ∨ p.cls = 1 := by
      unfold ofRegsB at hof
      simp only [Bool.and_eq_true, decide_eq_true_eq] at hof
      omega
    have hk1 : p.kind = 1 := by
      unfold ofRegsB at hof
      simp only [Bool.and_eq_true, decide_eq_true_eq] at hof
      exact hof.1.1
    have H : Hid (b = decide (p.n = regsR r0 r1 p.cls)) := by show _ = _; rw [← h]; simp only [scrB, hof, Bool.true_and]
    have hof' : ofRegsB ⟨p.kind, p.cls, p.n⟩ = true := hof
    rw [hof'] at HC
    have HSC : Hid (∀ w, Calls Try.prog 93 #[.int .i64 p.cls, .agg #[.int .i64 r0, .int .i64 r1]] w fun z w' => z = .returned (.agg #[.int .i64 1, .int .i64 p.cls, .int .i64 (regsR r0 r1 p.cls)]) ∧ Below w.heap.size w w') := fun w => scratch_any p.cls r0 r1 hc w
    have HK1 : Hid (p.kind = 1) := hk1
    obtain ⟨rg, hrg⟩ : ∃ rg, regsR r0 r1 p.cls = rg := ⟨_, rfl⟩
    rw [hrg] at H HSC
    have eqr := eqPlA p.kind p.cls p.n 1 p.cls rg
    have eqg := eqPlAG
    clear hof hof' h hc hk1 hrg
    go_enter Try.func79, Try.ntmps79
    go_upto_region 1 with fail
    rw [← HW.out]
    clear p0_0 p0_1 p0_2 m1_0 m1_1
    refine wp_region_X (fun w' => w'.cell? ⟨w.heap.size, 0, none⟩ = some (.int .i64 p.kind) ∧ w'.cell? ⟨w.heap.size, 1, none⟩ = some (.int .i64 p.cls) ∧ w'.cell? ⟨w.heap.size, 2, none⟩ = some (.int .i64 p.n) ∧ w'.cell? ⟨w.heap.size + 1, 0, none⟩ = some (.int .i64 r0) ∧ w'.cell? ⟨w.heap.size + 1, 1, none⟩ = some (.int .i64 r1) ∧ Below W.heap.size W w') 99 (by kernel_rfl) (HS.out _ (Below.refl _ _).drew) (fun hHeld => ?_)
    refine wpXt (v := ?_) 0 rfl (by kernel_rfl) (fun _ _ _ h => h) (by rfl) ?_ hHeld ?_
    rotate_left
    · intro w' hSw
      go_simp <;> with_reducible rfl
    try simp only [Act.put, List.setIfInBounds_toArray, List.set_cons_zero, List.set_cons_succ]
    refine wpXs 1 rfl (by kernel_rfl) (fun K hK => ?_)
    go_simp
    refine HC.mono ?_
    clear HC
    rintro e w1 ⟨rfl, hb1⟩
    have hq := ((Below.refl W.heap.size W).drew).trans hb1
    refine hK.out _ _ (HS.out _ hq) (fun hHeld => ?_)
    clear hK K
    try simp only [Act.put, List.setIfInBounds_toArray, List.set_cons_zero, List.set_cons_succ]
    refine wpXt (v := ?_) 2 rfl (by kernel_rfl) (fun _ _ _ h => h) (by rfl) ?_ hHeld ?_
    rotate_left
    · intro w' hSw
      go_simp <;> with_reducible rfl
    try simp only [Act.put, List.setIfInBounds_toArray, List.set_cons_zero, List.set_cons_succ]
    refine wpXt (v := ?_) 3 rfl (by kernel_rfl) (fun _ _ _ h => h) (by rfl) ?_ hHeld ?_
    rotate_left
    · intro w' hSw
      go_simp <;> with_reducible rfl
    try simp only [Act.put, List.setIfInBounds_toArray, List.set_cons_zero, List.set_cons_succ]
    refine wpXt (v := ?_) 4 rfl (by kernel_rfl) (fun _ _ _ h => h) (by rfl) ?_ hHeld ?_
    rotate_left
    · intro w' hSw
      go_simp <;> with_reducible rfl
    try simp only [Act.put, List.setIfInBounds_toArray, List.set_cons_zero, List.set_cons_succ]
    refine wpXt (v := ?_) 5 rfl (by kernel_rfl) (fun _ _ _ h => h) (by rfl) ?_ hHeld ?_
    rotate_left
    · intro w' hSw
      go_simp <;> with_reducible rfl
    try simp only [Act.put, List.setIfInBounds_toArray, List.set_cons_zero, List.set_cons_succ]
    refine wpXt (v := ?_) 6 rfl (by kernel_rfl) (fun _ _ _ h => h) (by rfl) ?_ hHeld ?_
    rotate_left
    · intro w' hSw
      go_simp <;> with_reducible rfl
    try simp only [Act.put, List.setIfInBounds_toArray, List.set_cons_zero, List.set_cons_succ]
    refine wpXs 7 rfl (by kernel_rfl) (fun K hK => ?_)
    go_simp
    refine (HSC.out _).mono ?_
    rintro e w2 ⟨rfl, hb2⟩
    have hq2 := hq.trans (hb2.mono hq.size)
    refine hK.out _ _ (HS.out _ hq2) (fun hHeld => ?_)
    clear hK K
    try simp only [Act.put, List.setIfInBounds_toArray, List.set_cons_zero, List.set_cons_succ]
    --CUTs
    refine wpXt (v := ?_) 8 rfl (by kernel_rfl) (fun _ _ _ h => h) (by rfl) ?_ hHeld ?_
    rotate_left
    · intro w' hSw
      go_simp <;> with_reducible rfl
    try simp only [Act.put, List.setIfInBounds_toArray, List.set_cons_zero, List.set_cons_succ]
    refine wpXt (v := ?_) 9 rfl (by kernel_rfl) (fun _ _ _ h => h) (by rfl) ?_ hHeld ?_
    rotate_left
    · intro w' hSw
      go_simp <;> with_reducible rfl
    try simp only [Act.put, List.setIfInBounds_toArray, List.set_cons_zero, List.set_cons_succ]
    refine wpXs 10 rfl (by kernel_rfl) (fun K hK => ?_)
    go_simp
    refine hK.out _ _ hHeld (fun hHeld => ?_)
    clear hK K
    try simp only [Act.put, List.setIfInBounds_toArray, List.set_cons_zero, List.set_cons_succ]
    refine wpAnyX_done (by kernel_rfl) ?_ _

    go_wp2
    go_ret
    refine ⟨?_, hbw.trans (hq2.mono hbw.size)⟩
    rw [H.out, HK1.out]
    by_cases e : p.n = rg <;> simp [e]
set_option maxHeartbeats 2000000 in
theorem mayHold_is (p : Pl) (m0 m1 fr : Int) (av ab ap ae : Option Addr) (nv nb np ne cv cb cp ce : Nat) (b : Bool) (h : holdB m0 m1 fr p = b) (w : World) :
    Calls Try.prog 52 #[.agg #[.slice av nv cv, .slice ab nb cb, .int .i64 m0, .int .i64 m1, .slice ap np cp, .slice ae ne ce, .int .i64 fr], .agg #[.int .i64 p.kind, .int .i64 p.cls, .int .i64 p.n]] w fun e w' => e = .returned (.bool b) ∧ Below w.heap.size w w' := by
  obtain ⟨b1, h1⟩ : ∃ b1, isRegB p m0 m1 = b1 := ⟨_, rfl⟩
  obtain ⟨W, hW⟩ : ∃ W, W = (w.alloc (.cells #[.slice av nv cv, .slice ab nb cb, .int .i64 m0, .int .i64 m1, .slice ap np cp, .slice ae ne ce, .int .i64 fr] 69)).alloc (.cells #[.int .i64 p.kind, .int .i64 p.cls, .int .i64 p.n] 37) := ⟨_, rfl⟩
  have hbw : Below w.heap.size w W := by rw [hW]; exact ((Below.refl _ _).alloc (Nat.le_refl _) _).alloc (by simp) _
  have zW : w.heap.size + 1 < W.heap.size := by rw [hW]; simp
  obtain ⟨t0, t1⟩ := two_at w #[.slice av nv cv, .slice ab nb cb, .int .i64 m0, .int .i64 m1, .slice ap np cp, .slice ae ne ce, .int .i64 fr] #[.int .i64 p.kind, .int .i64 p.cls, .int .i64 p.n] 69 37
  rw [← hW] at t0 t1
  have q0 : W.cell? ⟨w.heap.size, 0, none⟩ = some (.slice av nv cv) := t0 0
  have q1 : W.cell? ⟨w.heap.size, 1, none⟩ = some (.slice ab nb cb) := t0 1
  have q2 : W.cell? ⟨w.heap.size, 2, none⟩ = some (.int .i64 m0) := t0 2
  have q3 : W.cell? ⟨w.heap.size, 3, none⟩ = some (.int .i64 m1) := t0 3
  have q4 : W.cell? ⟨w.heap.size, 4, none⟩ = some (.slice ap np cp) := t0 4
  have q5 : W.cell? ⟨w.heap.size, 5, none⟩ = some (.slice ae ne ce) := t0 5
  have q6 : W.cell? ⟨w.heap.size, 6, none⟩ = some (.int .i64 fr) := t0 6
  have p0 : W.cell? ⟨w.heap.size + 1, 0, none⟩ = some (.int .i64 p.kind) := t1 0
  have p1 : W.cell? ⟨w.heap.size + 1, 1, none⟩ = some (.int .i64 p.cls) := t1 1
  have p2 : W.cell? ⟨w.heap.size + 1, 2, none⟩ = some (.int .i64 p.n) := t1 2
  have HW : Hid (W = (w.alloc (.cells #[.slice av nv cv, .slice ab nb cb, .int .i64 m0, .int .i64 m1, .slice ap np cp, .slice ae ne ce, .int .i64 fr] 69)).alloc (.cells #[.int .i64 p.kind, .int .i64 p.cls, .int .i64 p.n] 37)) := hW
  have HS : Hid (∀ w', Below W.heap.size W w' → w'.cell? ⟨w.heap.size, 0, none⟩ = some (.slice av nv cv) ∧ w'.cell? ⟨w.heap.size, 1, none⟩ = some (.slice ab nb cb) ∧ w'.cell? ⟨w.heap.size, 2, none⟩ = some (.int .i64 m0) ∧ w'.cell? ⟨w.heap.size, 3, none⟩ = some (.int .i64 m1) ∧ w'.cell? ⟨w.heap.size, 4, none⟩ = some (.slice ap np cp) ∧ w'.cell? ⟨w.heap.size, 5, none⟩ = some (.slice ae ne ce) ∧ w'.cell? ⟨w.heap.size, 6, none⟩ = some (.int .i64 fr) ∧ w'.cell? ⟨w.heap.size + 1, 0, none⟩ = some (.int .i64 p.kind) ∧ w'.cell? ⟨w.heap.size + 1, 1, none⟩ = some (.int .i64 p.cls) ∧ w'.cell? ⟨w.heap.size + 1, 2, none⟩ = some (.int .i64 p.n)) := fun w' hh => ⟨(hh.cell (p := ⟨w.heap.size, 0, none⟩) (by simp; omega)).trans q0, (hh.cell (p := ⟨w.heap.size, 1, none⟩) (by simp; omega)).trans q1, (hh.cell (p := ⟨w.heap.size, 2, none⟩) (by simp; omega)).trans q2, (hh.cell (p := ⟨w.heap.size, 3, none⟩) (by simp; omega)).trans q3, (hh.cell (p := ⟨w.heap.size, 4, none⟩) (by simp; omega)).trans q4, (hh.cell (p := ⟨w.heap.size, 5, none⟩) (by simp; omega)).trans q5, (hh.cell (p := ⟨w.heap.size, 6, none⟩) (by simp; omega)).trans q6, (hh.cell (p := ⟨w.heap.size + 1, 0, none⟩) (by simp; omega)).trans p0, (hh.cell (p := ⟨w.heap.size + 1, 1, none⟩) (by simp; omega)).trans p1, (hh.cell (p := ⟨w.heap.size + 1, 2, none⟩) (by simp; omega)).trans p2⟩
  clear hW t0 t1

  have HC1 := isReg_is p m0 m1 b1 h1 W
  cases b1
  · have h2 : isSlotB p fr = b := by rw [← h]; unfold holdB; rw [h1]; rfl
    go_enter Try.func52, Try.ntmps52
    go_upto_region 1 with fail
    rw [← HW.out]
    go_wp2_with fail
    refine HC1.mono ?_
    clear HC1
    rintro e w1 ⟨rfl, hb1⟩
    clear q0 q1 q2 q3 q4 q5 q6 p0 p1 p2
    obtain ⟨q0, q1, q2, q3, q4, q5, q6, p0, p1, p2⟩ := HS.out _ hb1
    have HC2 := isSlot_is p fr b h2 w1
    have hbe : Below w.heap.size w w1 := hbw.trans (hb1.mono hbw.size)
    have lW : w.heap.size + 1 < w1.heap.size := Nat.lt_of_lt_of_le zW hb1.size
    go_wp2_with fail
    refine HC2.mono ?_
    clear HC2
    rintro e w2 ⟨rfl, hb2⟩
    have hbe2 : Below w.heap.size w w2 := hbe.trans (hb2.mono hbe.size)
    go_wp2
    go_ret
    exact ⟨rfl, hbe2⟩
  · have H : Hid (true = b) := by show _ = _; rw [← h]; unfold holdB; rw [h1]; rfl
    go_enter Try.func52, Try.ntmps52
    go_upto_region 1 with fail
    rw [← HW.out]
    go_wp2_with fail
    refine HC1.mono ?_
    clear HC1
    rintro e w1 ⟨rfl, hb1⟩
    have hbe : Below w.heap.size w w1 := hbw.trans (hb1.mono hbw.size)
    go_wp2
    go_ret
    exact ⟨ret_bool H.out, hbe⟩

set_option maxHeartbeats 4000000 in
theorem mayMove_is (p : Pl) (m0 m1 fr : Int) (av ab ap ae : Option Addr) (nv nb np ne cv cb cp ce : Nat) (b : Bool) (h : moveB m0 m1 fr p = b) (hm0 : 0 ≤ m0 ∧ m0 ≤ 1000) (hm1 : 0 ≤ m1 ∧ m1 ≤ 1000) (w : World) :
    Calls Try.prog 53 #[.agg #[.slice av nv cv, .slice ab nb cb, .int .i64 m0, .int .i64 m1, .slice ap np cp, .slice ae ne ce, .int .i64 fr], .agg #[.int .i64 p.kind, .int .i64 p.cls, .int .i64 p.n]] w fun e w' => e = .returned (.bool b) ∧ Below w.heap.size w w' := by
  rw [moveB_is m0 m1 fr p hm0.1 hm1.1] at h
  obtain ⟨b1, h1⟩ : ∃ b1, holdB m0 m1 fr p = b1 := ⟨_, rfl⟩
  obtain ⟨a0, a1⟩ := hm0
  obtain ⟨c0, c1⟩ := hm1
  have j0 : IntKind.i64.wrap (m0 + 1) = m0 + 1 := by rw [IntKind.wrap_i64]; omega
  have j1 : IntKind.i64.wrap (m1 + 1) = m1 + 1 := by rw [IntKind.wrap_i64]; omega
  obtain ⟨W, hW⟩ : ∃ W, W = (w.alloc (.cells #[.slice av nv cv, .slice ab nb cb, .int .i64 m0, .int .i64 m1, .slice ap np cp, .slice ae ne ce, .int .i64 fr] 69)).alloc (.cells #[.int .i64 p.kind, .int .i64 p.cls, .int .i64 p.n] 37) := ⟨_, rfl⟩
  have hbw : Below w.heap.size w W := by rw [hW]; exact ((Below.refl _ _).alloc (Nat.le_refl _) _).alloc (by simp) _
  have zW : w.heap.size + 1 < W.heap.size := by rw [hW]; simp
  obtain ⟨t0, t1⟩ := two_at w #[.slice av nv cv, .slice ab nb cb, .int .i64 m0, .int .i64 m1, .slice ap np cp, .slice ae ne ce, .int .i64 fr] #[.int .i64 p.kind, .int .i64 p.cls, .int .i64 p.n] 69 37
  rw [← hW] at t0 t1
  have q0 : W.cell? ⟨w.heap.size, 0, none⟩ = some (.slice av nv cv) := t0 0
  have q1 : W.cell? ⟨w.heap.size, 1, none⟩ = some (.slice ab nb cb) := t0 1
  have q2 : W.cell? ⟨w.heap.size, 2, none⟩ = some (.int .i64 m0) := t0 2
  have q3 : W.cell? ⟨w.heap.size, 3, none⟩ = some (.int .i64 m1) := t0 3
  have q4 : W.cell? ⟨w.heap.size, 4, none⟩ = some (.slice ap np cp) := t0 4
  have q5 : W.cell? ⟨w.heap.size, 5, none⟩ = some (.slice ae ne ce) := t0 5
  have q6 : W.cell? ⟨w.heap.size, 6, none⟩ = some (.int .i64 fr) := t0 6
  have p0 : W.cell? ⟨w.heap.size + 1, 0, none⟩ = some (.int .i64 p.kind) := t1 0
  have p1 : W.cell? ⟨w.heap.size + 1, 1, none⟩ = some (.int .i64 p.cls) := t1 1
  have p2 : W.cell? ⟨w.heap.size + 1, 2, none⟩ = some (.int .i64 p.n) := t1 2
  have HW : Hid (W = (w.alloc (.cells #[.slice av nv cv, .slice ab nb cb, .int .i64 m0, .int .i64 m1, .slice ap np cp, .slice ae ne ce, .int .i64 fr] 69)).alloc (.cells #[.int .i64 p.kind, .int .i64 p.cls, .int .i64 p.n] 37)) := hW
  have HS : Hid (∀ w', Below W.heap.size W w' → w'.cell? ⟨w.heap.size, 0, none⟩ = some (.slice av nv cv) ∧ w'.cell? ⟨w.heap.size, 1, none⟩ = some (.slice ab nb cb) ∧ w'.cell? ⟨w.heap.size, 2, none⟩ = some (.int .i64 m0) ∧ w'.cell? ⟨w.heap.size, 3, none⟩ = some (.int .i64 m1) ∧ w'.cell? ⟨w.heap.size, 4, none⟩ = some (.slice ap np cp) ∧ w'.cell? ⟨w.heap.size, 5, none⟩ = some (.slice ae ne ce) ∧ w'.cell? ⟨w.heap.size, 6, none⟩ = some (.int .i64 fr) ∧ w'.cell? ⟨w.heap.size + 1, 0, none⟩ = some (.int .i64 p.kind) ∧ w'.cell? ⟨w.heap.size + 1, 1, none⟩ = some (.int .i64 p.cls) ∧ w'.cell? ⟨w.heap.size + 1, 2, none⟩ = some (.int .i64 p.n)) := fun w' hh => ⟨(hh.cell (p := ⟨w.heap.size, 0, none⟩) (by simp; omega)).trans q0, (hh.cell (p := ⟨w.heap.size, 1, none⟩) (by simp; omega)).trans q1, (hh.cell (p := ⟨w.heap.size, 2, none⟩) (by simp; omega)).trans q2, (hh.cell (p := ⟨w.heap.size, 3, none⟩) (by simp; omega)).trans q3, (hh.cell (p := ⟨w.heap.size, 4, none⟩) (by simp; omega)).trans q4, (hh.cell (p := ⟨w.heap.size, 5, none⟩) (by simp; omega)).trans q5, (hh.cell (p := ⟨w.heap.size, 6, none⟩) (by simp; omega)).trans q6, (hh.cell (p := ⟨w.heap.size + 1, 0, none⟩) (by simp; omega)).trans p0, (hh.cell (p := ⟨w.heap.size + 1, 1, none⟩) (by simp; omega)).trans p1, (hh.cell (p := ⟨w.heap.size + 1, 2, none⟩) (by simp; omega)).trans p2⟩
  clear hW t0 t1

  have HC1 := mayHold_is p m0 m1 fr av ab ap ae nv nb np ne cv cb cp ce b1 h1 W
  cases b1
  · have h2 : scrB m0 m1 p = b := by rw [← h, h1]; rfl
    go_enter Try.func53, Try.ntmps53
    go_upto_region 1 with fail
    rw [← HW.out]
    go_wp2_with fail
    refine HC1.mono ?_
    clear HC1
    rintro e w1 ⟨rfl, hb1⟩
    clear q0 q1 q2 q3 q4 q5 q6 p0 p1 p2
    obtain ⟨q0, q1, q2, q3, q4, q5, q6, p0, p1, p2⟩ := HS.out _ hb1
    have HC2 := isScratch_is p m0 m1 b h2 w1
    have hbe : Below w.heap.size w w1 := hbw.trans (hb1.mono hbw.size)
    have lW : w.heap.size + 1 < w1.heap.size := Nat.lt_of_lt_of_le zW hb1.size
    go_wp2_with fail
    refine HC2.mono ?_
    clear HC2
    rintro e w2 ⟨rfl, hb2⟩
    have hbe2 : Below w.heap.size w w2 := hbe.trans (hb2.mono hbe.size)
    go_wp2
    go_ret
    exact ⟨rfl, hbe2⟩
  · have H : Hid (true = b) := by show _ = _; rw [← h, h1]; rfl
    go_enter Try.func53, Try.ntmps53
    go_upto_region 1 with fail
    rw [← HW.out]
    go_wp2_with fail
    refine HC1.mono ?_
    clear HC1
    rintro e w1 ⟨rfl, hb1⟩
    have hbe : Below w.heap.size w w1 := hbw.trans (hb1.mono hbw.size)
    go_wp2
    go_ret
    exact ⟨ret_bool H.out, hbe⟩

set_option maxHeartbeats 4000000 in
theorem move_is (v : Mv) (m0 m1 fr : Int) (av ab ap ae : Option Addr) (nv nb np ne cv cb cp ce : Nat) (r : Int) (h : mvErr m0 m1 fr v = r) (hm0 : 0 ≤ m0 ∧ m0 ≤ 1000) (hm1 : 0 ≤ m1 ∧ m1 ≤ 1000) (w : World) :
    Calls Try.prog 36 #[.agg #[.slice av nv cv, .slice ab nb cb, .int .i64 m0, .int .i64 m1, .slice ap np cp, .slice ae ne ce, .int .i64 fr], .agg #[.int .i64 v.src.kind, .int .i64 v.src.cls, .int .i64 v.src.n, .int .i64 v.dst.kind, .int .i64 v.dst.cls, .int .i64 v.dst.n]] w fun e w' => e = .returned (.int .i64 r) ∧ Below w.heap.size w w' := by
  obtain ⟨b1, h1⟩ : ∃ b1, moveB m0 m1 fr v.src = b1 := ⟨_, rfl⟩
  obtain ⟨b2, h2⟩ : ∃ b2, moveB m0 m1 fr v.dst = b2 := ⟨_, rfl⟩
  obtain ⟨W, hW⟩ : ∃ W, W = (w.alloc (.cells #[.slice av nv cv, .slice ab nb cb, .int .i64 m0, .int .i64 m1, .slice ap np cp, .slice ae ne ce, .int .i64 fr] 69)).alloc (.cells #[.int .i64 v.src.kind, .int .i64 v.src.cls, .int .i64 v.src.n, .int .i64 v.dst.kind, .int .i64 v.dst.cls, .int .i64 v.dst.n] 48) := ⟨_, rfl⟩
  have hbw : Below w.heap.size w W := by rw [hW]; exact ((Below.refl _ _).alloc (Nat.le_refl _) _).alloc (by simp) _
  have zW : w.heap.size + 1 < W.heap.size := by rw [hW]; simp
  obtain ⟨t0, t1⟩ := two_at w #[.slice av nv cv, .slice ab nb cb, .int .i64 m0, .int .i64 m1, .slice ap np cp, .slice ae ne ce, .int .i64 fr] #[.int .i64 v.src.kind, .int .i64 v.src.cls, .int .i64 v.src.n, .int .i64 v.dst.kind, .int .i64 v.dst.cls, .int .i64 v.dst.n] 69 48
  rw [← hW] at t0 t1
  have q0 : W.cell? ⟨w.heap.size, 0, none⟩ = some (.slice av nv cv) := t0 0
  have q1 : W.cell? ⟨w.heap.size, 1, none⟩ = some (.slice ab nb cb) := t0 1
  have q2 : W.cell? ⟨w.heap.size, 2, none⟩ = some (.int .i64 m0) := t0 2
  have q3 : W.cell? ⟨w.heap.size, 3, none⟩ = some (.int .i64 m1) := t0 3
  have q4 : W.cell? ⟨w.heap.size, 4, none⟩ = some (.slice ap np cp) := t0 4
  have q5 : W.cell? ⟨w.heap.size, 5, none⟩ = some (.slice ae ne ce) := t0 5
  have q6 : W.cell? ⟨w.heap.size, 6, none⟩ = some (.int .i64 fr) := t0 6
  have p0 : W.cell? ⟨w.heap.size + 1, 0, none⟩ = some (.int .i64 v.src.kind) := t1 0
  have p1 : W.cell? ⟨w.heap.size + 1, 1, none⟩ = some (.int .i64 v.src.cls) := t1 1
  have p2 : W.cell? ⟨w.heap.size + 1, 2, none⟩ = some (.int .i64 v.src.n) := t1 2
  have p3 : W.cell? ⟨w.heap.size + 1, 3, none⟩ = some (.int .i64 v.dst.kind) := t1 3
  have p4 : W.cell? ⟨w.heap.size + 1, 4, none⟩ = some (.int .i64 v.dst.cls) := t1 4
  have p5 : W.cell? ⟨w.heap.size + 1, 5, none⟩ = some (.int .i64 v.dst.n) := t1 5
  have HW : Hid (W = (w.alloc (.cells #[.slice av nv cv, .slice ab nb cb, .int .i64 m0, .int .i64 m1, .slice ap np cp, .slice ae ne ce, .int .i64 fr] 69)).alloc (.cells #[.int .i64 v.src.kind, .int .i64 v.src.cls, .int .i64 v.src.n, .int .i64 v.dst.kind, .int .i64 v.dst.cls, .int .i64 v.dst.n] 48)) := hW
  have HS : Hid (∀ w', Below W.heap.size W w' → w'.cell? ⟨w.heap.size, 0, none⟩ = some (.slice av nv cv) ∧ w'.cell? ⟨w.heap.size, 1, none⟩ = some (.slice ab nb cb) ∧ w'.cell? ⟨w.heap.size, 2, none⟩ = some (.int .i64 m0) ∧ w'.cell? ⟨w.heap.size, 3, none⟩ = some (.int .i64 m1) ∧ w'.cell? ⟨w.heap.size, 4, none⟩ = some (.slice ap np cp) ∧ w'.cell? ⟨w.heap.size, 5, none⟩ = some (.slice ae ne ce) ∧ w'.cell? ⟨w.heap.size, 6, none⟩ = some (.int .i64 fr) ∧ w'.cell? ⟨w.heap.size + 1, 0, none⟩ = some (.int .i64 v.src.kind) ∧ w'.cell? ⟨w.heap.size + 1, 1, none⟩ = some (.int .i64 v.src.cls) ∧ w'.cell? ⟨w.heap.size + 1, 2, none⟩ = some (.int .i64 v.src.n) ∧ w'.cell? ⟨w.heap.size + 1, 3, none⟩ = some (.int .i64 v.dst.kind) ∧ w'.cell? ⟨w.heap.size + 1, 4, none⟩ = some (.int .i64 v.dst.cls) ∧ w'.cell? ⟨w.heap.size + 1, 5, none⟩ = some (.int .i64 v.dst.n)) := fun w' hh => ⟨(hh.cell (p := ⟨w.heap.size, 0, none⟩) (by simp; omega)).trans q0, (hh.cell (p := ⟨w.heap.size, 1, none⟩) (by simp; omega)).trans q1, (hh.cell (p := ⟨w.heap.size, 2, none⟩) (by simp; omega)).trans q2, (hh.cell (p := ⟨w.heap.size, 3, none⟩) (by simp; omega)).trans q3, (hh.cell (p := ⟨w.heap.size, 4, none⟩) (by simp; omega)).trans q4, (hh.cell (p := ⟨w.heap.size, 5, none⟩) (by simp; omega)).trans q5, (hh.cell (p := ⟨w.heap.size, 6, none⟩) (by simp; omega)).trans q6, (hh.cell (p := ⟨w.heap.size + 1, 0, none⟩) (by simp; omega)).trans p0, (hh.cell (p := ⟨w.heap.size + 1, 1, none⟩) (by simp; omega)).trans p1, (hh.cell (p := ⟨w.heap.size + 1, 2, none⟩) (by simp; omega)).trans p2, (hh.cell (p := ⟨w.heap.size + 1, 3, none⟩) (by simp; omega)).trans p3, (hh.cell (p := ⟨w.heap.size + 1, 4, none⟩) (by simp; omega)).trans p4, (hh.cell (p := ⟨w.heap.size + 1, 5, none⟩) (by simp; omega)).trans p5⟩
  clear hW t0 t1

  have HC1 := mayMove_is v.src m0 m1 fr av ab ap ae nv nb np ne cv cb cp ce b1 h1 hm0 hm1 W
  go_enter Try.func36, Try.ntmps36
  go_upto_region 1 with fail
  rw [← HW.out]
  go_wp2_with fail
  refine HC1.mono ?_
  clear HC1
  rintro e w1 ⟨rfl, hb1⟩
  clear q0 q1 q2 q3 q4 q5 q6 p0 p1 p2 p3 p4 p5
  obtain ⟨q0, q1, q2, q3, q4, q5, q6, p0, p1, p2, p3, p4, p5⟩ := HS.out _ hb1
  have lW1 : w.heap.size + 1 < w1.heap.size := Nat.lt_of_lt_of_le zW hb1.size
  cases b1
  · have hbe : Below w.heap.size w w1 := hbw.trans (hb1.mono hbw.size)
    have H : Hid (2 = r) := by show _ = _; rw [← h]; unfold mvErr; rw [h1, if_neg (by simp)]
    go_wp2
    go_ret
    exact ⟨ret_int H.out, hbe⟩

  have HC2 := mayMove_is v.dst m0 m1 fr av ab ap ae nv nb np ne cv cb cp ce b2 h2 hm0 hm1 w1
  go_wp2_with fail
  refine HC2.mono ?_
  clear HC2
  rintro e w2 ⟨rfl, hb2⟩
  have hB2 : Below W.heap.size W w2 := hb1.trans (hb2.mono hb1.size)
  have hbe : Below w.heap.size w w2 := hbw.trans (hB2.mono hbw.size)
  clear q0 q1 q2 q3 q4 q5 q6 p0 p1 p2 p3 p4 p5 lW1
  obtain ⟨q0, q1, q2, q3, q4, q5, q6, p0, p1, p2, p3, p4, p5⟩ := HS.out _ hB2
  have lW2 : w.heap.size + 1 < w2.heap.size := Nat.lt_of_lt_of_le zW hB2.size
  cases b2
  · have H : Hid (2 = r) := by show _ = _; rw [← h]; unfold mvErr; rw [h1, h2, if_neg (by simp)]
    go_wp2
    go_ret
    exact ⟨ret_int H.out, hbe⟩
  by_cases hk : v.src.kind = v.dst.kind
  rotate_left
  · have g1 : (v.src.kind != v.dst.kind) = true := by simpa using hk
    have H : Hid (0 = r) := by show _ = _; rw [← h]; unfold mvErr; rw [h1, h2, if_pos (by simp), if_pos hk]
    clear hk
    go_wp2
    go_ret
    exact ⟨ret_int H.out, hbe⟩
  have g1 : (v.src.kind != v.dst.kind) = false := by simp [hk]
  by_cases hs : v.src.kind = 2
  · have g2 : (v.src.kind == 2) = true := by simp [hs]
    have H : Hid (13 = r) := by show _ = _; rw [← h]; unfold mvErr; rw [h1, h2, if_pos (by simp), if_neg (by simp [hk]), if_pos hs]
    clear hk hs
    go_wp2
    go_ret
    exact ⟨ret_int H.out, hbe⟩
  have g2 : (v.src.kind == 2) = false := by simp [hs]
  by_cases hc : v.src.cls = v.dst.cls
  · have g3 : (v.src.cls != v.dst.cls) = false := by simp [hc]
    have H : Hid (0 = r) := by show _ = _; rw [← h]; unfold mvErr; rw [h1, h2, if_pos (by simp), if_neg (by simp [hk]), if_neg hs, if_neg (by simp [hc])]
    clear hk hs hc
    go_wp2
    go_ret
    exact ⟨ret_int H.out, hbe⟩
  · have g3 : (v.src.cls != v.dst.cls) = true := by simpa using hc
    have H : Hid (17 = r) := by show _ = _; rw [← h]; unfold mvErr; rw [h1, h2, if_pos (by simp), if_neg (by simp [hk]), if_neg hs, if_pos hc]
    clear hk hs hc
    go_wp2
    go_ret
    exact ⟨ret_int H.out, hbe⟩

set_option maxHeartbeats 2000000 in
theorem isBehind_is (e p : Ed) (v1 v2 : Value) (b : Bool) (h : behindB e p = b) (w : World) :
    Calls Try.prog 35 #[.agg #[.int .i64 e.block, .int .i64 e.pos, v1], .agg #[.int .i64 p.block, .int .i64 p.pos, v2]] w fun x w' => x = .returned (.bool b) ∧ Below w.heap.size w w' := by
  have hb : Below w.heap.size w ((w.alloc (.cells #[.int .i64 e.block, .int .i64 e.pos, v1] 51)).alloc (.cells #[.int .i64 p.block, .int .i64 p.pos, v2] 51)) := ((Below.refl _ _).alloc (Nat.le_refl _) _).alloc (by simp) _
  by_cases hk : e.block = p.block
  · have g : (e.block != p.block) = false := by simp [hk]
    have H : Hid (decide (p.pos < e.pos) = b) := by show _ = _; rw [← h]; unfold behindB; rw [if_pos hk]
    clear hk
    go_enter Try.func35, Try.ntmps35
    go_wp2
    go_ret
    exact ⟨ret_bool H.out, hb⟩
  · have g : (e.block != p.block) = true := by simpa using hk
    have H : Hid (decide (p.block < e.block) = b) := by show _ = _; rw [← h]; unfold behindB; rw [if_neg hk]
    clear hk
    go_enter Try.func35, Try.ntmps35
    go_wp2
    go_ret
    exact ⟨ret_bool H.out, hb⟩

set_option maxHeartbeats 4000000 in
theorem isSpot_is (bs : List Blk) (nb : Nat) (e : Ed) (vm : Value) (m0 m1 fr : Int) (av ab ap ae : Option Addr) (nv np ne cv cb cp ce : Nat) (b : Bool) (h : isSpotB bs e = b) (w : World) (hnb : bs.length = nb) (hs : SlOf w 3 (RBlk w) (.slice ab nb cb) bs) :
    Calls Try.prog 34 #[.agg #[.slice av nv cv, .slice ab nb cb, .int .i64 m0, .int .i64 m1, .slice ap np cp, .slice ae ne ce, .int .i64 fr], .agg #[.int .i64 e.block, .int .i64 e.pos, vm]] w fun x w' => x = .returned (.bool b) ∧ Below w.heap.size w w' := by
  obtain ⟨W, hW⟩ : ∃ W, W = (w.alloc (.cells #[.slice av nv cv, .slice ab nb cb, .int .i64 m0, .int .i64 m1, .slice ap np cp, .slice ae ne ce, .int .i64 fr] 69)).alloc (.cells #[.int .i64 e.block, .int .i64 e.pos, vm] 51) := ⟨_, rfl⟩
  have hbw : Below w.heap.size w W := by rw [hW]; exact ((Below.refl _ _).alloc (Nat.le_refl _) _).alloc (by simp) _
  have zW : w.heap.size + 1 < W.heap.size := by rw [hW]; simp
  obtain ⟨t0, t1⟩ := two_at w #[.slice av nv cv, .slice ab nb cb, .int .i64 m0, .int .i64 m1, .slice ap np cp, .slice ae ne ce, .int .i64 fr] #[.int .i64 e.block, .int .i64 e.pos, vm] 69 51
  rw [← hW] at t0 t1
  have q0 : W.cell? ⟨w.heap.size, 0, none⟩ = some (.slice av nv cv) := t0 0
  have q1 : W.cell? ⟨w.heap.size, 1, none⟩ = some (.slice ab nb cb) := t0 1
  have q2 : W.cell? ⟨w.heap.size, 2, none⟩ = some (.int .i64 m0) := t0 2
  have q3 : W.cell? ⟨w.heap.size, 3, none⟩ = some (.int .i64 m1) := t0 3
  have q4 : W.cell? ⟨w.heap.size, 4, none⟩ = some (.slice ap np cp) := t0 4
  have q5 : W.cell? ⟨w.heap.size, 5, none⟩ = some (.slice ae ne ce) := t0 5
  have q6 : W.cell? ⟨w.heap.size, 6, none⟩ = some (.int .i64 fr) := t0 6
  have p0 : W.cell? ⟨w.heap.size + 1, 0, none⟩ = some (.int .i64 e.block) := t1 0
  have p1 : W.cell? ⟨w.heap.size + 1, 1, none⟩ = some (.int .i64 e.pos) := t1 1
  have p2 : W.cell? ⟨w.heap.size + 1, 2, none⟩ = some (vm) := t1 2
  have HW : Hid (W = (w.alloc (.cells #[.slice av nv cv, .slice ab nb cb, .int .i64 m0, .int .i64 m1, .slice ap np cp, .slice ae ne ce, .int .i64 fr] 69)).alloc (.cells #[.int .i64 e.block, .int .i64 e.pos, vm] 51)) := hW
  have HS : Hid (∀ w', Below W.heap.size W w' → w'.cell? ⟨w.heap.size, 0, none⟩ = some (.slice av nv cv) ∧ w'.cell? ⟨w.heap.size, 1, none⟩ = some (.slice ab nb cb) ∧ w'.cell? ⟨w.heap.size, 2, none⟩ = some (.int .i64 m0) ∧ w'.cell? ⟨w.heap.size, 3, none⟩ = some (.int .i64 m1) ∧ w'.cell? ⟨w.heap.size, 4, none⟩ = some (.slice ap np cp) ∧ w'.cell? ⟨w.heap.size, 5, none⟩ = some (.slice ae ne ce) ∧ w'.cell? ⟨w.heap.size, 6, none⟩ = some (.int .i64 fr) ∧ w'.cell? ⟨w.heap.size + 1, 0, none⟩ = some (.int .i64 e.block) ∧ w'.cell? ⟨w.heap.size + 1, 1, none⟩ = some (.int .i64 e.pos) ∧ w'.cell? ⟨w.heap.size + 1, 2, none⟩ = some (vm)) := fun w' hh => ⟨(hh.cell (p := ⟨w.heap.size, 0, none⟩) (by simp; omega)).trans q0, (hh.cell (p := ⟨w.heap.size, 1, none⟩) (by simp; omega)).trans q1, (hh.cell (p := ⟨w.heap.size, 2, none⟩) (by simp; omega)).trans q2, (hh.cell (p := ⟨w.heap.size, 3, none⟩) (by simp; omega)).trans q3, (hh.cell (p := ⟨w.heap.size, 4, none⟩) (by simp; omega)).trans q4, (hh.cell (p := ⟨w.heap.size, 5, none⟩) (by simp; omega)).trans q5, (hh.cell (p := ⟨w.heap.size, 6, none⟩) (by simp; omega)).trans q6, (hh.cell (p := ⟨w.heap.size + 1, 0, none⟩) (by simp; omega)).trans p0, (hh.cell (p := ⟨w.heap.size + 1, 1, none⟩) (by simp; omega)).trans p1, (hh.cell (p := ⟨w.heap.size + 1, 2, none⟩) (by simp; omega)).trans p2⟩
  clear hW t0 t1

  have hs1 := hs.below hbw (RBlk.below hbw)
  clear hs
  by_cases h0 : e.block < 0
  · have H : Hid (false = b) := by show _ = _; rw [← h]; unfold isSpotB; rw [decide_eq_false (by omega)]; rfl
    go_enter Try.func34, Try.ntmps34
    go_upto_region 1 with fail
    rw [← HW.out]
    go_wp2
    go_ret
    exact ⟨ret_bool H.out, hbw⟩
  by_cases h1 : (nb : Int) ≤ e.block
  · have H : Hid (false = b) := by show _ = _; rw [← h]; unfold isSpotB; rw [decide_eq_false (by omega)]; rfl
    go_enter Try.func34, Try.ntmps34
    go_upto_region 1 with fail
    rw [← HW.out]
    go_wp2
    go_ret
    exact ⟨ret_bool H.out, hbw⟩
  obtain ⟨t, ht⟩ : ∃ t : Nat, e.block = (t : Int) := ⟨e.block.toNat, by omega⟩
  have htn : t < bs.length := by omega
  obtain ⟨b5, off5, cs, rfl, hcl5, ⟨vp, vi, ve, rfl, hp, hi, he0⟩, hc⟩ := hs1.at t htn
  obtain ⟨ai, ci, rfl, li⟩ := hi.out
  unfold longest at li
  have c1 := hc 1 (by simp)
  simp at c1
  have HG : Hid ((bs.getD e.block.toNat ⟨[], [], []⟩).instrs.length = bs[t].instrs.length) := by
    show _ = _
    rw [ht]
    simp [List.getD, htn]
  have HD : Hid (decide (0 ≤ e.block ∧ e.block < (bs.length : Int)) = true) := decide_eq_true (by omega)
  rw [ht] at p0
  have HT : Hid (e.block = (t : Int)) := ht
  have HWT : Hid (W = (w.alloc (.cells #[.slice av nv cv, .slice (some ⟨b5, off5, none⟩) nb cb, .int .i64 m0, .int .i64 m1, .slice ap np cp, .slice ae ne ce, .int .i64 fr] 69)).alloc (.cells #[.int .i64 (t : Int), .int .i64 e.pos, vm] 51)) := by
    have := HW.out
    rw [ht] at this
    exact this
  clear hc hcl5 hp hi he0 hs1 HW
  generalize bs[t].instrs.length = ni at *
  have htb : (t : Int) < (nb : Int) := by omega
  have htb2 : t < nb := by omega
  clear htn h0 h1 HS
  rw [ht]
  clear ht
  by_cases h2 : 0 ≤ e.pos
  · have hd : decide (0 ≤ e.pos) = true := by simpa using h2
    have H : Hid (decide (e.pos ≤ (ni : Int)) = b) := by show _ = _; rw [← h]; unfold isSpotB; rw [HD.out, HG.out]; simp [h2]
    go_enter Try.func34, Try.ntmps34
    go_upto_region 1 with fail
    rw [← HWT.out]
    go_wp2_with fail
    go_quiet (fail)
    go_wp2
    go_ret
    exact ⟨ret_bool H.out, below_drewN hbw _⟩
  · have hd : decide (0 ≤ e.pos) = false := by simpa using h2
    have H : Hid (false = b) := by show _ = _; rw [← h]; unfold isSpotB; rw [HD.out, HG.out]; simp; omega
    go_enter Try.func34, Try.ntmps34
    go_upto_region 1 with fail
    rw [← HWT.out]
    go_wp2_with fail
    go_quiet (fail)
    go_wp2
    go_ret
    exact ⟨ret_bool H.out, below_drewN hbw _⟩
end Go.Proofs.Ytjbjnndmpheedaa
namespace Go.Proofs.Ytjbjnndmpheedaa
open Go.RowKit
set_option linter.unusedVariables false

theorem zip_at {α β : Type} {a : List α} {b : List β} {k : Nat} (h : k < a.length) (h2 : k < b.length) : ∃ h3 : k < (a.zip b).length, (a.zip b)[k] = (a[k], b[k]) := ⟨by simp; omega, by simp⟩
theorem firstE_next {α : Type} {f : α → Int} {l : List α} {k : Nat} {x : α} (h : k < l.length) (e : l[k] = x) (h0 : f x = 0) (hk : firstE f (l.drop k) = firstE f l) : firstE f (l.drop (k + 1)) = firstE f l := (firstE_drop0 f l k h (by rw [e]; exact h0)).trans hk
theorem firstE_here {α : Type} {f : α → Int} {l : List α} {k : Nat} {x : α} {r : Int} (h : k < l.length) (e : l[k] = x) (hr : f x = r) (h0 : r ≠ 0) (hk : firstE f (l.drop k) = firstE f l) : firstE f l = r := by
  rw [← hk, firstE_drop1 f l k h (by rw [e, hr]; exact h0), e, hr]
theorem firstE_end {α : Type} {f : α → Int} {l : List α} {k : Nat} (h : l.length ≤ k) (hk : firstE f (l.drop k) = firstE f l) : firstE f l = 0 := by
  rw [← hk, List.drop_of_length_le h]
  rfl
theorem pl_cell {w : World} {aa : Option Addr} {ca n : Nat} {l : List Pl} (ha : SlOf w 3 RPl (.slice aa n ca) l) (i : Nat) (hi : i < l.length) : ∃ b off, aa = some ⟨b, off, none⟩ ∧ b < w.heap.size ∧ w.cell? ⟨b, off + i * 3, none⟩ = some (.int .i64 l[i].kind) ∧ w.cell? ⟨b, off + i * 3 + 1, none⟩ = some (.int .i64 l[i].cls) ∧ w.cell? ⟨b, off + i * 3 + 1 + 1, none⟩ = some (.int .i64 l[i].n) := by
  obtain ⟨b, off, cs, h1, h2, h3, h4⟩ := ha.at i hi
  unfold RPl at h3
  subst h3
  have c0 := h4 0 (by simp)
  have c1 := h4 1 (by simp)
  have c2 := h4 2 (by simp)
  exact ⟨b, off, h1, block_lt c0, c0, c1, c2⟩
theorem ps_cell {w : World} {aa : Option Addr} {ca n : Nat} {l : List (List Pl)} (ha : SlOf w 1 (RPs w) (.slice aa n ca) l) (i : Nat) (hi : i < l.length) : ∃ b off aq cq, aa = some ⟨b, off, none⟩ ∧ b < w.heap.size ∧ w.cell? ⟨b, off + i, none⟩ = some (.slice aq l[i].length cq) ∧ l[i].length ≤ 140737488355328 ∧ SlOf w 3 RPl (.slice aq l[i].length cq) l[i] := by
  obtain ⟨b, off, cs, h1, h2, ⟨v, rfl, h3⟩, h4⟩ := ha.at i hi
  obtain ⟨aq, cq, rfl, hq⟩ := h3.out
  have c0 := h4 0 (by simp)
  simp only [Nat.mul_one, Nat.add_zero] at c0
  exact ⟨b, off, aq, cq, h1, block_lt c0, c0, hq, h3⟩
theorem pss_cell {w : World} {aa : Option Addr} {ca n : Nat} {l : List (List (List Pl))} (ha : SlOf w 1 (RPss w) (.slice aa n ca) l) (i : Nat) (hi : i < l.length) : ∃ b off aq cq, aa = some ⟨b, off, none⟩ ∧ b < w.heap.size ∧ w.cell? ⟨b, off + i, none⟩ = some (.slice aq l[i].length cq) ∧ l[i].length ≤ 140737488355328 ∧ SlOf w 1 (RPs w) (.slice aq l[i].length cq) l[i] := by
  obtain ⟨b, off, cs, h1, h2, ⟨v, rfl, h3⟩, h4⟩ := ha.at i hi
  obtain ⟨aq, cq, rfl, hq⟩ := h3.out
  have c0 := h4 0 (by simp)
  simp only [Nat.mul_one, Nat.add_zero] at c0
  exact ⟨b, off, aq, cq, h1, block_lt c0, c0, hq, h3⟩

set_option maxRecDepth 4000 in
set_option maxHeartbeats 8000000 in
theorem blockPlaces_is (is : List Ins) (ls : List (List Pl)) (m0 m1 fr : Int) (av ab ap ae : Option Addr) (nv nb np ne cv cb cp ce : Nat) (abp ai abe al : Option Addr) (nbp ni nbe nl cbp ci cbe cl : Nat) (r : Int) (h : (if ls.length ≠ is.length then 4 else firstE (insPlErr m0 m1 fr) (is.zip ls)) = r) (w : World) (hni : is.length = ni) (hnl : ls.length = nl) (hi : SlOf w 3 (RIns w) (.slice ai ni ci) is) (hl : SlOf w 1 (RPs w) (.slice al nl cl) ls) :
    Calls Try.prog 33 #[.agg #[.slice av nv cv, .slice ab nb cb, .int .i64 m0, .int .i64 m1, .slice ap np cp, .slice ae ne ce, .int .i64 fr], .agg #[.slice abp nbp cbp, .slice ai ni ci, .slice abe nbe cbe], .slice al nl cl] w fun e w' => e = .returned (.int .i64 r) ∧ Below w.heap.size w w' := by
  obtain ⟨W, hW⟩ : ∃ W, W = (w.alloc (.cells #[.slice av nv cv, .slice ab nb cb, .int .i64 m0, .int .i64 m1, .slice ap np cp, .slice ae ne ce, .int .i64 fr] 69)).alloc (.cells #[.slice abp nbp cbp, .slice ai ni ci, .slice abe nbe cbe] 75) := ⟨_, rfl⟩
  have hbw : Below w.heap.size w W := by rw [hW]; exact ((Below.refl _ _).alloc (Nat.le_refl _) _).alloc (by simp) _
  have zW : w.heap.size + 1 < W.heap.size := by rw [hW]; simp
  obtain ⟨t0, t1⟩ := two_at w #[.slice av nv cv, .slice ab nb cb, .int .i64 m0, .int .i64 m1, .slice ap np cp, .slice ae ne ce, .int .i64 fr] #[.slice abp nbp cbp, .slice ai ni ci, .slice abe nbe cbe] 69 75
  rw [← hW] at t0 t1
  have q0 : W.cell? ⟨w.heap.size, 0, none⟩ = some (.slice av nv cv) := t0 0
  have q1 : W.cell? ⟨w.heap.size, 1, none⟩ = some (.slice ab nb cb) := t0 1
  have q2 : W.cell? ⟨w.heap.size, 2, none⟩ = some (.int .i64 m0) := t0 2
  have q3 : W.cell? ⟨w.heap.size, 3, none⟩ = some (.int .i64 m1) := t0 3
  have q4 : W.cell? ⟨w.heap.size, 4, none⟩ = some (.slice ap np cp) := t0 4
  have q5 : W.cell? ⟨w.heap.size, 5, none⟩ = some (.slice ae ne ce) := t0 5
  have q6 : W.cell? ⟨w.heap.size, 6, none⟩ = some (.int .i64 fr) := t0 6
  have p0 : W.cell? ⟨w.heap.size + 1, 0, none⟩ = some (.slice abp nbp cbp) := t1 0
  have p1 : W.cell? ⟨w.heap.size + 1, 1, none⟩ = some (.slice ai ni ci) := t1 1
  have p2 : W.cell? ⟨w.heap.size + 1, 2, none⟩ = some (.slice abe nbe cbe) := t1 2
  have HW : Hid (W = (w.alloc (.cells #[.slice av nv cv, .slice ab nb cb, .int .i64 m0, .int .i64 m1, .slice ap np cp, .slice ae ne ce, .int .i64 fr] 69)).alloc (.cells #[.slice abp nbp cbp, .slice ai ni ci, .slice abe nbe cbe] 75)) := hW
  have HS : Hid (∀ w', Below W.heap.size W w' → w'.cell? ⟨w.heap.size, 0, none⟩ = some (.slice av nv cv) ∧ w'.cell? ⟨w.heap.size, 1, none⟩ = some (.slice ab nb cb) ∧ w'.cell? ⟨w.heap.size, 2, none⟩ = some (.int .i64 m0) ∧ w'.cell? ⟨w.heap.size, 3, none⟩ = some (.int .i64 m1) ∧ w'.cell? ⟨w.heap.size, 4, none⟩ = some (.slice ap np cp) ∧ w'.cell? ⟨w.heap.size, 5, none⟩ = some (.slice ae ne ce) ∧ w'.cell? ⟨w.heap.size, 6, none⟩ = some (.int .i64 fr) ∧ w'.cell? ⟨w.heap.size + 1, 0, none⟩ = some (.slice abp nbp cbp) ∧ w'.cell? ⟨w.heap.size + 1, 1, none⟩ = some (.slice ai ni ci) ∧ w'.cell? ⟨w.heap.size + 1, 2, none⟩ = some (.slice abe nbe cbe)) := fun w' hh => ⟨(hh.cell (p := ⟨w.heap.size, 0, none⟩) (by simp; omega)).trans q0, (hh.cell (p := ⟨w.heap.size, 1, none⟩) (by simp; omega)).trans q1, (hh.cell (p := ⟨w.heap.size, 2, none⟩) (by simp; omega)).trans q2, (hh.cell (p := ⟨w.heap.size, 3, none⟩) (by simp; omega)).trans q3, (hh.cell (p := ⟨w.heap.size, 4, none⟩) (by simp; omega)).trans q4, (hh.cell (p := ⟨w.heap.size, 5, none⟩) (by simp; omega)).trans q5, (hh.cell (p := ⟨w.heap.size, 6, none⟩) (by simp; omega)).trans q6, (hh.cell (p := ⟨w.heap.size + 1, 0, none⟩) (by simp; omega)).trans p0, (hh.cell (p := ⟨w.heap.size + 1, 1, none⟩) (by simp; omega)).trans p1, (hh.cell (p := ⟨w.heap.size + 1, 2, none⟩) (by simp; omega)).trans p2⟩
  clear hW t0 t1

  have HI : Hid (SlOf W 3 (RIns W) (.slice ai ni ci) is) := hi.below hbw (RIns.below hbw)
  have HL : Hid (SlOf W 1 (RPs W) (.slice al nl cl) ls) := hl.below hbw (RPs.below hbw)
  have HNI : Hid (is.length = ni) := hni
  have HNL : Hid (ls.length = nl) := hnl
  have lni : ni ≤ 140737488355328 := by obtain ⟨_, _, _, hh⟩ := hi.out; rw [hni] at hh; exact hh
  have lnl : nl ≤ 140737488355328 := by obtain ⟨_, _, _, hh⟩ := hl.out; rw [hnl] at hh; exact hh
  have HR : Hid ((if ls.length ≠ is.length then 4 else firstE (insPlErr m0 m1 fr) (is.zip ls)) = r) := h
  clear hi hl hni hnl h
  by_cases hlen : nl = ni
  rotate_left
  · have g1 : ((nl : Int) != (ni : Int)) = true := by simp; omega
    have H : Hid (4 = r) := by show _ = _; rw [← HR.out, if_pos (by rw [HNI.out, HNL.out]; exact hlen)]
    clear hlen
    go_enter Try.func33, Try.ntmps33
    go_upto_region 1 with fail
    rw [← HW.out]
    go_wp2
    go_ret
    exact ⟨ret_int H.out, hbw⟩
  subst hlen
  have HR2 : Hid (firstE (insPlErr m0 m1 fr) (is.zip ls) = r) := by have := HR.out; rw [if_neg (by rw [HNI.out, HNL.out]; simp)] at this; exact this
  clear HR
  go_enter Try.func33, Try.ntmps33
  go_upto_region 1 with fail
  rw [← HW.out]
  go_wp2_with fail
  clear HW q0 q1 q2 q3 q4 q5 q6 p0 p1 p2
  go_loopw [19] (fun x wr => ∃ k : Nat, x = .int .i64 k ∧ k ≤ nl ∧ Hid (Below W.heap.size W wr ∧ firstE (insPlErr m0 m1 fr) ((is.zip ls).drop k) = firstE (insPlErr m0 m1 fr) (is.zip ls))) (fun x _ => nl - (intOf x).toNat)
  case atStart => exact ⟨0, rfl, Nat.zero_le _, Below.refl _ _, rfl⟩
  case round =>
    obtain ⟨k, rfl, hk, HK⟩ := hrel
    obtain ⟨wo, hwo⟩ : ∃ wo, wo = wr := ⟨_, rfl⟩
    subst hwo
    obtain ⟨q0, q1, q2, q3, q4, q5, q6, p0, p1, p2⟩ := HS.out _ HK.out.1
    have lW : w.heap.size + 1 < wo.heap.size := Nat.lt_of_lt_of_le zW HK.out.1.size
    by_cases hlt : k < nl
    · have hki : k < is.length := by rw [HNI.out]; exact hlt
      have hkl : k < ls.length := by rw [HNL.out]; exact hlt
      obtain ⟨bl, offl, aq, cq, rfl, hbl, l0, lq, hq⟩ := ps_cell (HL.out.below HK.out.1 (RPs.below HK.out.1)) k hkl
      obtain ⟨b7, off7, cs, rfl, hcl7, ⟨vo, vs, rfl, ho7, hs7⟩, hc7⟩ := (HI.out.below HK.out.1 (RIns.below HK.out.1)).at k hki
      obtain ⟨ao, co, rfl, lo⟩ := ho7.out
      unfold longest at lo
      have x1 := hc7 1 (by simp)
      simp at x1
      obtain ⟨hz, ez⟩ := zip_at hki hkl
      have HZ : Hid (∃ hz : k < (is.zip ls).length, (is.zip ls)[k] = (is[k], ls[k])) := ⟨hz, ez⟩
      have HQ : Hid (SlOf wo 3 RPl (.slice aq ls[k].length cq) ls[k]) := hq
      have HX1 : Hid (insPlErr m0 m1 fr (is[k], ls[k]) = if ls[k].length ≠ is[k].operands.length then 4 else if ls[k].all (holdB m0 m1 fr) = true then 0 else 2) := rfl
      clear hc7 hcl7 ho7 hs7 hz ez hq
      by_cases hle : ls[k].length = is[k].operands.length
      rotate_left
      · have g1 : ((ls[k].length : Int) != (is[k].operands.length : Int)) = true := by simp; omega
        have H : Hid (4 = r) := by
          show _ = _
          obtain ⟨hz, ez⟩ := HZ.out
          rw [← HR2.out]
          exact (firstE_here hz ez (by rw [HX1.out, if_pos hle]) (by decide) HK.out.2).symm
        have HE : Hid (Below w.heap.size w wo) := hbw.trans (HK.out.1.mono hbw.size)
        clear hle HK
        go_wp2
        go_ret
        exact ⟨ret_int H.out, HE.out⟩
      · have g1 : ((ls[k].length : Int) != (is[k].operands.length : Int)) = false := by simp [hle]
        have HX2 : Hid (insPlErr m0 m1 fr (is[k], ls[k]) = if ls[k].all (holdB m0 m1 fr) = true then 0 else 2) := by
          show _ = _
          rw [HX1.out, if_neg (by simp [hle])]
        clear hle HX1
        generalize is[k].operands.length = no at *
        go_wp2
        clear q0 q1 q2 q3 q4 q5 q6 p0 p1 p2 lW
        go_loopw [36] (fun x wr => ∃ j : Nat, x = .int .i64 j ∧ j ≤ ls[k].length ∧ Hid (Below wo.heap.size wo wr ∧ (ls[k].take j).all (holdB m0 m1 fr) = true)) (fun x _ => ls[k].length - (intOf x).toNat)
        case atStart => exact ⟨0, rfl, Nat.zero_le _, Below.refl _ _, rfl⟩
        case round =>
          obtain ⟨j, rfl, hj, HJ⟩ := hrel
          have HBr : Hid (Below W.heap.size W wr) := HK.out.1.trans (HJ.out.1.mono HK.out.1.size)
          obtain ⟨q0, q1, q2, q3, q4, q5, q6, p0, p1, p2⟩ := HS.out _ HBr.out
          have lW : w.heap.size + 1 < wr.heap.size := Nat.lt_of_lt_of_le zW HBr.out.size
          by_cases hltj : j < ls[k].length
          · obtain ⟨bp, offp, rfl, hbp, e0, e1, e2⟩ := pl_cell (HQ.out.below HJ.out.1 fun _ _ h => h) j hltj
            have HPM : Hid (ls[k][j] ∈ ls[k]) := List.getElem_mem hltj
            have HPN : Hid (holdB m0 m1 fr ls[k][j] = true → (ls[k].take (j + 1)).all (holdB m0 m1 fr) = true) := fun hh => by
              rw [List.take_succ_eq_append_getElem hltj, List.all_append, HJ.out.2]
              simp [hh]
            generalize ls[k][j] = p at *
            obtain ⟨W4, hW4⟩ : ∃ W4, W4 = wr.alloc (.cells #[.int .i64 p.kind, .int .i64 p.cls, .int .i64 p.n] 37) := ⟨_, rfl⟩
            have hb4 : Below wr.heap.size wr W4 := by rw [hW4]; exact (Below.refl _ _).alloc (Nat.le_refl _) _
            have t1 := top_at wr #[.int .i64 p.kind, .int .i64 p.cls, .int .i64 p.n] 37
            rw [← hW4] at t1
            have y0 : W4.cell? ⟨wr.heap.size, 0, none⟩ = some (.int .i64 p.kind) := t1 0
            have y1 : W4.cell? ⟨wr.heap.size, 1, none⟩ = some (.int .i64 p.cls) := t1 1
            have y2 : W4.cell? ⟨wr.heap.size, 2, none⟩ = some (.int .i64 p.n) := t1 2
            have HW4 : Hid (W4 = wr.alloc (.cells #[.int .i64 p.kind, .int .i64 p.cls, .int .i64 p.n] 37)) := hW4
            have HB4 : Hid (Below wo.heap.size wo W4) := HJ.out.1.trans (hb4.mono HJ.out.1.size)
            have HBX : Hid (Below W.heap.size W W4) := HBr.out.trans (hb4.mono HBr.out.size)
            obtain ⟨hv, hhv⟩ : ∃ hv, holdB m0 m1 fr p = hv := ⟨_, rfl⟩
            have HCA := mayHold_is p m0 m1 fr av ab ap ae nv nb np ne cv cb cp ce hv hhv W4
            have HHV : Hid (holdB m0 m1 fr p = hv) := hhv
            clear hW4 t1 hb4 hhv
            go_upto_region 11 with fail
            rw [← HW4.out]
            clear HW4 q0 q1 q2 q3 q4 q5 q6 p0 p1 p2 lW e0 e1 e2 hbp
            obtain ⟨q0, q1, q2, q3, q4, q5, q6, p0, p1, p2⟩ := HS.out _ HBX.out
            have lW : w.heap.size + 1 < W4.heap.size := Nat.lt_of_lt_of_le zW HBX.out.size
            go_wp2_with fail
            refine HCA.mono ?_
            clear HCA
            rintro e w6 ⟨rfl, hb6⟩
            have HB6 : Hid (Below wo.heap.size wo w6) := HB4.out.trans (hb6.mono HB4.out.size)
            have HBX6 : Hid (Below W.heap.size W w6) := HBX.out.trans (hb6.mono HBX.out.size)
            clear q0 q1 q2 q3 q4 q5 q6 p0 p1 p2 lW y0 y1 y2 hb6
            cases hv
            case false =>
              have H : Hid (2 = r) := by
                show _ = _
                obtain ⟨hz, ez⟩ := HZ.out
                rw [← HR2.out]
                refine (firstE_here hz ez (r := 2) ?_ (by decide) HK.out.2).symm
                rw [HX2.out, if_neg]
                intro hall
                have := List.all_eq_true.1 hall p HPM.out
                rw [HHV.out] at this
                cases this
              go_wp2
              go_ret
              exact ⟨ret_int H.out, hbw.trans (HBX6.out.mono hbw.size)⟩
            case true =>
              have HJ2 : Hid (Below wo.heap.size wo w6 ∧ (ls[k].take (j + 1)).all (holdB m0 m1 fr) = true) := ⟨HB6.out, HPN.out HHV.out⟩
              clear HJ
              go_wp2
              go_roundw
              case rel => exact ⟨j + 1, by go_num, by omega, HJ2⟩
              case measure => simp [intOf]; omega
          · have HK2 : Hid (Below W.heap.size W wr ∧ firstE (insPlErr m0 m1 fr) ((is.zip ls).drop (k + 1)) = firstE (insPlErr m0 m1 fr) (is.zip ls)) := by
              obtain ⟨hz, ez⟩ := HZ.out
              refine ⟨HBr.out, firstE_next hz ez ?_ HK.out.2⟩
              rw [HX2.out, if_pos]
              have := HJ.out.2
              rw [List.take_of_length_le (by omega)] at this
              exact this
            clear HJ
            go_wp2
            go_roundw
            case rel => exact ⟨k + 1, by go_num, by omega, HK2⟩
            case measure => simp [intOf]; omega
    · have H : Hid (0 = r) := by
        show _ = _
        rw [← HR2.out]
        exact (firstE_end (by simp [HNI.out, HNL.out]; omega) HK.out.2).symm
      have HE : Hid (Below w.heap.size w wo) := hbw.trans (HK.out.1.mono hbw.size)
      clear HK
      go_wp2
      go_ret
      exact ⟨ret_int H.out, HE.out⟩

set_option maxRecDepth 4000 in
set_option maxHeartbeats 8000000 in
theorem places_is (bs : List Blk) (pl : List (List (List Pl))) (m0 m1 fr : Int) (av ab ap ae : Option Addr) (nv nb np ne cv cb cp ce : Nat) (r : Int) (h : placesErr m0 m1 fr bs pl = r) (w : World) (hnb : bs.length = nb) (hnp : pl.length = np) (hs : SlOf w 3 (RBlk w) (.slice ab nb cb) bs) (hp : SlOf w 1 (RPss w) (.slice ap np cp) pl) :
    Calls Try.prog 19 #[.agg #[.slice av nv cv, .slice ab nb cb, .int .i64 m0, .int .i64 m1, .slice ap np cp, .slice ae ne ce, .int .i64 fr]] w fun e w' => e = .returned (.int .i64 r) ∧ Below w.heap.size w w' := by
  obtain ⟨W, hW⟩ : ∃ W, W = w.alloc (.cells #[.slice av nv cv, .slice ab nb cb, .int .i64 m0, .int .i64 m1, .slice ap np cp, .slice ae ne ce, .int .i64 fr] 69) := ⟨_, rfl⟩
  have hbw : Below w.heap.size w W := by rw [hW]; exact (Below.refl _ _).alloc (Nat.le_refl _) _
  have zW : w.heap.size < W.heap.size := by rw [hW]; simp
  have t0 := top_at w #[.slice av nv cv, .slice ab nb cb, .int .i64 m0, .int .i64 m1, .slice ap np cp, .slice ae ne ce, .int .i64 fr] 69
  rw [← hW] at t0
  have HW : Hid (W = w.alloc (.cells #[.slice av nv cv, .slice ab nb cb, .int .i64 m0, .int .i64 m1, .slice ap np cp, .slice ae ne ce, .int .i64 fr] 69)) := hW
  have HS : Hid (∀ w', Below W.heap.size W w' → w'.cell? ⟨w.heap.size, 0, none⟩ = some (.slice av nv cv) ∧ w'.cell? ⟨w.heap.size, 1, none⟩ = some (.slice ab nb cb) ∧ w'.cell? ⟨w.heap.size, 2, none⟩ = some (.int .i64 m0) ∧ w'.cell? ⟨w.heap.size, 3, none⟩ = some (.int .i64 m1) ∧ w'.cell? ⟨w.heap.size, 4, none⟩ = some (.slice ap np cp) ∧ w'.cell? ⟨w.heap.size, 5, none⟩ = some (.slice ae ne ce) ∧ w'.cell? ⟨w.heap.size, 6, none⟩ = some (.int .i64 fr)) := fun w' hh => ⟨(hh.cell (p := ⟨w.heap.size, 0, none⟩) (by simp; omega)).trans (t0 0), (hh.cell (p := ⟨w.heap.size, 1, none⟩) (by simp; omega)).trans (t0 1), (hh.cell (p := ⟨w.heap.size, 2, none⟩) (by simp; omega)).trans (t0 2), (hh.cell (p := ⟨w.heap.size, 3, none⟩) (by simp; omega)).trans (t0 3), (hh.cell (p := ⟨w.heap.size, 4, none⟩) (by simp; omega)).trans (t0 4), (hh.cell (p := ⟨w.heap.size, 5, none⟩) (by simp; omega)).trans (t0 5), (hh.cell (p := ⟨w.heap.size, 6, none⟩) (by simp; omega)).trans (t0 6)⟩
  clear hW t0

  have HB : Hid (SlOf W 3 (RBlk W) (.slice ab nb cb) bs) := hs.below hbw (RBlk.below hbw)
  have HL : Hid (SlOf W 1 (RPss W) (.slice ap np cp) pl) := hp.below hbw (RPss.below hbw)
  have HNB : Hid (bs.length = nb) := hnb
  have HNP : Hid (pl.length = np) := hnp
  have lnb : nb ≤ 140737488355328 := by obtain ⟨_, _, _, hh⟩ := hs.out; rw [hnb] at hh; exact hh
  have lnp : np ≤ 140737488355328 := by obtain ⟨_, _, _, hh⟩ := hp.out; rw [hnp] at hh; exact hh
  have HR : Hid (placesErr m0 m1 fr bs pl = r) := h
  obtain ⟨q0, q1, q2, q3, q4, q5, q6⟩ := HS.out W (Below.refl _ _)
  clear hs hp hnb hnp h
  by_cases hlen : np = nb
  rotate_left
  · have g1 : ((np : Int) != (nb : Int)) = true := by simp; omega
    have H : Hid (4 = r) := by show _ = _; rw [← HR.out]; unfold placesErr; rw [if_pos (by rw [HNB.out, HNP.out]; exact hlen)]
    clear hlen
    go_enter Try.func19, Try.ntmps19
    go_upto_region 1 with fail
    rw [← HW.out]
    go_wp2
    go_ret
    exact ⟨ret_int H.out, hbw⟩
  subst hlen
  have HR2 : Hid (firstE (blkPlErr m0 m1 fr) (bs.zip pl) = r) := by have := HR.out; unfold placesErr at this; rw [if_neg (by rw [HNB.out, HNP.out]; simp)] at this; exact this
  clear HR
  go_enter Try.func19, Try.ntmps19
  go_upto_region 1 with fail
  rw [← HW.out]
  go_wp2_with fail
  clear HW q0 q1 q2 q3 q4 q5 q6
  go_loopw [19] (fun x wr => ∃ k : Nat, x = .int .i64 k ∧ k ≤ np ∧ Hid (Below W.heap.size W wr ∧ firstE (blkPlErr m0 m1 fr) ((bs.zip pl).drop k) = firstE (blkPlErr m0 m1 fr) (bs.zip pl))) (fun x _ => np - (intOf x).toNat)
  case atStart => exact ⟨0, rfl, Nat.zero_le _, Below.refl _ _, rfl⟩
  case round =>
    obtain ⟨k, rfl, hk, HK⟩ := hrel
    obtain ⟨q0, q1, q2, q3, q4, q5, q6⟩ := HS.out _ HK.out.1
    have lW : w.heap.size < wr.heap.size := Nat.lt_of_lt_of_le zW HK.out.1.size
    by_cases hlt : k < np
    · have hkb : k < bs.length := by rw [HNB.out]; exact hlt
      have hkl : k < pl.length := by rw [HNP.out]; exact hlt
      obtain ⟨bl, offl, al, cl, rfl, hbl, l0, lq, hq⟩ := pss_cell (HL.out.below HK.out.1 (RPss.below HK.out.1)) k hkl
      obtain ⟨b5, off5, cs, rfl, hcl5, ⟨vbp, vi, vbe, rfl, hbp, hi, hbe⟩, hc⟩ := (HB.out.below HK.out.1 (RBlk.below HK.out.1)).at k hkb
      obtain ⟨abp, cbp, rfl, _⟩ := hbp.out
      obtain ⟨ai, ci, rfl, _⟩ := hi.out
      obtain ⟨abe, cbe, rfl, _⟩ := hbe.out
      have c0 := hc 0 (by simp)
      have c1 := hc 1 (by simp)
      have c2 := hc 2 (by simp)
      simp at c0 c1 c2
      have hb5 := block_lt c0
      obtain ⟨hz, ez⟩ := zip_at hkb hkl
      have HZ : Hid (∃ hz : k < (bs.zip pl).length, (bs.zip pl)[k] = (bs[k], pl[k])) := ⟨hz, ez⟩
      have hbd : Below wr.heap.size wr wr.drew := (Below.refl _ _).drew
      obtain ⟨er, her⟩ : ∃ er, blkPlErr m0 m1 fr (bs[k], pl[k]) = er := ⟨_, rfl⟩
      have HER : Hid (blkPlErr m0 m1 fr (bs[k], pl[k]) = er) := her
      have HCA := blockPlaces_is bs[k].instrs pl[k] m0 m1 fr av (some ⟨b5, off5, none⟩) (some ⟨bl, offl, none⟩) ae nv np np ne cv cb cp ce abp ai abe al bs[k].params.length bs[k].instrs.length bs[k].edges.length pl[k].length cbp ci cbe cl er her wr.drew rfl rfl (hi.below hbd (RIns.below hbd)) (hq.below hbd (RPs.below hbd))
      clear hc hcl5 hbp hi hbe hz ez hq her
      generalize bs[k].params.length = nbp at *
      generalize bs[k].instrs.length = ni at *
      generalize bs[k].edges.length = nbe at *
      generalize pl[k].length = nl at *
      have HSk : Hid (∀ w', Below wr.heap.size wr w' → (fun w' => w'.cell? ⟨w.heap.size, 0, none⟩ = some (.slice av nv cv) ∧ w'.cell? ⟨w.heap.size, 1, none⟩ = some (.slice (some ⟨b5, off5, none⟩) np cb) ∧ w'.cell? ⟨w.heap.size, 2, none⟩ = some (.int .i64 m0) ∧ w'.cell? ⟨w.heap.size, 3, none⟩ = some (.int .i64 m1) ∧ w'.cell? ⟨w.heap.size, 4, none⟩ = some (.slice (some ⟨bl, offl, none⟩) np cp) ∧ w'.cell? ⟨w.heap.size, 5, none⟩ = some (.slice ae ne ce) ∧ w'.cell? ⟨w.heap.size, 6, none⟩ = some (.int .i64 fr) ∧ w'.cell? ⟨b5, off5 + k * 3, none⟩ = some (.slice abp nbp cbp) ∧ w'.cell? ⟨b5, off5 + k * 3 + 1, none⟩ = some (.slice ai ni ci) ∧ w'.cell? ⟨b5, off5 + k * 3 + 1 + 1, none⟩ = some (.slice abe nbe cbe) ∧ Below wr.heap.size wr w') w') := fun w' hh => ⟨(hh.cell (by simp; omega)).trans q0, (hh.cell (by simp; omega)).trans q1, (hh.cell (by simp; omega)).trans q2, (hh.cell (by simp; omega)).trans q3, (hh.cell (by simp; omega)).trans q4, (hh.cell (by simp; omega)).trans q5, (hh.cell (by simp; omega)).trans q6, (hh.cell (by simp; omega)).trans c0, (hh.cell (by simp; omega)).trans c1, (hh.cell (by simp; omega)).trans c2, hh⟩
      go_upto_region 6 with fail
      refine wp_region_X (fun w' => w'.cell? ⟨w.heap.size, 0, none⟩ = some (.slice av nv cv) ∧ w'.cell? ⟨w.heap.size, 1, none⟩ = some (.slice (some ⟨b5, off5, none⟩) np cb) ∧ w'.cell? ⟨w.heap.size, 2, none⟩ = some (.int .i64 m0) ∧ w'.cell? ⟨w.heap.size, 3, none⟩ = some (.int .i64 m1) ∧ w'.cell? ⟨w.heap.size, 4, none⟩ = some (.slice (some ⟨bl, offl, none⟩) np cp) ∧ w'.cell? ⟨w.heap.size, 5, none⟩ = some (.slice ae ne ce) ∧ w'.cell? ⟨w.heap.size, 6, none⟩ = some (.int .i64 fr) ∧ w'.cell? ⟨b5, off5 + k * 3, none⟩ = some (.slice abp nbp cbp) ∧ w'.cell? ⟨b5, off5 + k * 3 + 1, none⟩ = some (.slice ai ni ci) ∧ w'.cell? ⟨b5, off5 + k * 3 + 1 + 1, none⟩ = some (.slice abe nbe cbe) ∧ Below wr.heap.size wr w') 99 (by kernel_rfl) (HSk.out _ hbd) (fun hHeld => ?_)
      refine wpXt (v := ?_) 0 rfl (by kernel_rfl) (fun _ _ _ h => h) (by rfl) ?_ hHeld ?_
      rotate_left
      · intro w' hSw
        go_simp <;> with_reducible rfl
      try simp only [Act.put, List.setIfInBounds_toArray, List.set_cons_zero, List.set_cons_succ]
      refine wpXt (v := ?_) 1 rfl (by kernel_rfl) (fun _ _ _ h => h) (by rfl) ?_ hHeld ?_
      rotate_left
      · intro w' hSw
        go_simp <;> with_reducible rfl
      try simp only [Act.put, List.setIfInBounds_toArray, List.set_cons_zero, List.set_cons_succ]
      refine wpXt (v := ?_) 2 rfl (by kernel_rfl) (fun _ _ _ h => h) (by rfl) ?_ hHeld ?_
      rotate_left
      · intro w' hSw
        go_simp <;> with_reducible rfl
      try simp only [Act.put, List.setIfInBounds_toArray, List.set_cons_zero, List.set_cons_succ]
      refine wpXt (v := ?_) 3 rfl (by kernel_rfl) (fun _ _ _ h => h) (by rfl) ?_ hHeld ?_
      rotate_left
      · intro w' hSw
        go_simp <;> with_reducible rfl
      try simp only [Act.put, List.setIfInBounds_toArray, List.set_cons_zero, List.set_cons_succ]
      refine wpXt (v := ?_) 4 rfl (by kernel_rfl) (fun _ _ _ h => h) (by rfl) ?_ hHeld ?_
      rotate_left
      · intro w' hSw
        go_simp <;> with_reducible rfl
      try simp only [Act.put, List.setIfInBounds_toArray, List.set_cons_zero, List.set_cons_succ]
      refine wpXt (v := ?_) 5 rfl (by kernel_rfl) (fun _ _ _ h => h) (by rfl) ?_ hHeld ?_
      rotate_left
      · intro w' hSw
        go_simp <;> with_reducible rfl
      try simp only [Act.put, List.setIfInBounds_toArray, List.set_cons_zero, List.set_cons_succ]
      refine wpXt (v := ?_) 6 rfl (by kernel_rfl) (fun _ _ _ h => h) (by rfl) ?_ hHeld ?_
      rotate_left
      · intro w' hSw
        go_simp <;> with_reducible rfl
      try simp only [Act.put, List.setIfInBounds_toArray, List.set_cons_zero, List.set_cons_succ]
      refine wpXt (v := ?_) 7 rfl (by kernel_rfl) (fun _ _ _ h => h) (by rfl) ?_ hHeld ?_
      rotate_left
      · intro w' hSw
        go_simp <;> with_reducible rfl
      try simp only [Act.put, List.setIfInBounds_toArray, List.set_cons_zero, List.set_cons_succ]
      refine wpXs 8 rfl (by kernel_rfl) (fun K hK => ?_)
      go_simp
      refine HCA.mono ?_
      rintro e wn ⟨rfl, hbn0⟩
      have hbn : Below wr.heap.size wr wn := hbd.trans (hbn0.mono hbd.size)
      refine hK.out _ _ (HSk.out _ hbn) (fun hHeld => ?_)
      clear hK K
      try simp only [Act.put, List.setIfInBounds_toArray, List.set_cons_zero, List.set_cons_succ]
      refine wpXs 9 rfl (by kernel_rfl) (fun K hK => ?_)
      go_simp
      refine hK.out _ _ (HSk.out _ hbn) (fun hHeld => ?_)
      clear hK K
      try simp only [Act.put, List.setIfInBounds_toArray, List.set_cons_zero, List.set_cons_succ]
      refine wpAnyX_done (by kernel_rfl) ?_ _

      have HE : Hid (Below W.heap.size W wn) := HK.out.1.trans (hbn.mono HK.out.1.size)
      clear q0 q1 q2 q3 q4 q5 q6 lW c0 c1 c2 hbd hbn hbn0 HSk l0
      by_cases h0 : er = 0
      · have HK2 : Hid (Below W.heap.size W wn ∧ firstE (blkPlErr m0 m1 fr) ((bs.zip pl).drop (k + 1)) = firstE (blkPlErr m0 m1 fr) (bs.zip pl)) := by
          obtain ⟨hz, ez⟩ := HZ.out
          exact ⟨HE.out, firstE_next hz ez (HER.out.trans h0) HK.out.2⟩
        subst h0
        clear HK
        go_wp2
        go_roundw
        case rel => exact ⟨k + 1, by go_num, by omega, HK2⟩
        case measure => simp [intOf]; omega
      · have hne : (er != 0) = true := by simpa using h0
        have H : Hid (er = r) := by
          obtain ⟨hz, ez⟩ := HZ.out
          rw [← HR2.out]
          exact (firstE_here hz ez HER.out h0 HK.out.2).symm
        clear h0
        go_wp2
        go_ret
        exact ⟨ret_int H.out, hbw.trans (HE.out.mono hbw.size)⟩
    · have H : Hid (0 = r) := by
        show _ = _
        rw [← HR2.out]
        exact (firstE_end (by simp [HNB.out, HNP.out]; omega) HK.out.2).symm
      have HE : Hid (Below w.heap.size w wr) := hbw.trans (HK.out.1.mono hbw.size)
      clear HK
      go_wp2
      go_ret
      exact ⟨ret_int H.out, HE.out⟩

end Go.Proofs.Ytjbjnndmpheedaa
namespace Go.Proofs.Ytjbjnndmpheedaa
open Go.RowKit
set_option linter.unusedVariables false

theorem mv_cell {w : World} {aa : Option Addr} {ca n : Nat} {l : List Mv} (ha : SlOf w 6 RMv (.slice aa n ca) l) (i : Nat) (hi : i < l.length) : ∃ b off, aa = some ⟨b, off, none⟩ ∧ b < w.heap.size ∧ w.cell? ⟨b, off + i * 6, none⟩ = some (.int .i64 l[i].src.kind) ∧ w.cell? ⟨b, off + i * 6 + 1, none⟩ = some (.int .i64 l[i].src.cls) ∧ w.cell? ⟨b, off + i * 6 + 1 + 1, none⟩ = some (.int .i64 l[i].src.n) ∧ w.cell? ⟨b, off + i * 6 + 1 + 1 + 1, none⟩ = some (.int .i64 l[i].dst.kind) ∧ w.cell? ⟨b, off + i * 6 + 1 + 1 + 1 + 1, none⟩ = some (.int .i64 l[i].dst.cls) ∧ w.cell? ⟨b, off + i * 6 + 1 + 1 + 1 + 1 + 1, none⟩ = some (.int .i64 l[i].dst.n) := by
  obtain ⟨b, off, cs, h1, h2, h3, h4⟩ := ha.at i hi
  unfold RMv at h3
  subst h3
  have c0 := h4 0 (by simp)
  have c1 := h4 1 (by simp)
  have c2 := h4 2 (by simp)
  have c3 := h4 3 (by simp)
  have c4 := h4 4 (by simp)
  have c5 := h4 5 (by simp)
  exact ⟨b, off, h1, block_lt c0, c0, c1, c2, c3, c4, c5⟩
theorem ed_cell {w : World} {aa : Option Addr} {ca n : Nat} {l : List Ed} (ha : SlOf w 3 (REd w) (.slice aa n ca) l) (i : Nat) (hi : i < l.length) : ∃ b off am cm, aa = some ⟨b, off, none⟩ ∧ b < w.heap.size ∧ w.cell? ⟨b, off + i * 3, none⟩ = some (.int .i64 l[i].block) ∧ w.cell? ⟨b, off + i * 3 + 1, none⟩ = some (.int .i64 l[i].pos) ∧ w.cell? ⟨b, off + i * 3 + 1 + 1, none⟩ = some (.slice am l[i].moves.length cm) ∧ l[i].moves.length ≤ 140737488355328 ∧ SlOf w 6 RMv (.slice am l[i].moves.length cm) l[i].moves := by
  obtain ⟨b, off, cs, h1, h2, ⟨v, rfl, h3⟩, h4⟩ := ha.at i hi
  obtain ⟨am, cm, rfl, hq⟩ := h3.out
  have c0 := h4 0 (by simp)
  have c1 := h4 1 (by simp)
  have c2 := h4 2 (by simp)
  exact ⟨b, off, am, cm, h1, block_lt c0, c0, c1, c2, hq, h3⟩

end Go.Proofs.Ytjbjnndmpheedaa
