/-
  The contract of 'work.parting': at which move a ring is opened, and where what that one takes is laid aside.
-/
import Derived.Test.YtdlglinbjkaokabOrG
namespace Go.Proofs.Ytdlglinbjkaokab
open Go.RowKit
set_option linter.unusedVariables false

/-- How many moves go by way of the scratch of this class. -/
def hopC (cl : Pl → Int) (l : List Mv) (c : Int) : Int := ((l.filter fun m => hopB m && decide (cl m.dst = c)).length : Int)
def keepB (cl : Pl → Int) (l : List Mv) (m : Mv) : Bool := decide (hopC cl l (cl m.dst) = 0) || (decide (hopC cl l (cl m.dst) = 1) && hopB m)
theorem hopC_snoc (cl : Pl → Int) (l : List Mv) (m : Mv) (c : Int) : hopC cl (l ++ [m]) c = hopC cl l c + if hopB m = true ∧ cl m.dst = c then 1 else 0 := by
  unfold hopC
  rw [List.filter_append, List.length_append]
  by_cases h : hopB m = true ∧ cl m.dst = c
  · rw [if_pos h]
    simp [h.1, h.2]
  · rw [if_neg h]
    have : (hopB m && decide (cl m.dst = c)) = false := by
      cases h1 : hopB m
      · rfl
      · have : cl m.dst ≠ c := fun e => h ⟨h1, e⟩
        simp [this]
    simp [this]
theorem hopC_bd (cl : Pl → Int) (l : List Mv) (c : Int) : 0 ≤ hopC cl l c ∧ hopC cl l c ≤ (l.length : Int) := by
  unfold hopC
  have := List.length_filter_le (fun m => hopB m && decide (cl m.dst = c)) l
  omega
theorem aside_keep {cl : Pl → Int} {l1 l2 : List Mv} {x0 : Mv} (h : keepB cl (l1 ++ x0 :: l2) x0 = true) : ∀ y ∈ l2 ++ l1, hopB y = true → cl y.dst ≠ cl x0.dst := by
  intro y hy hb e
  have h1 : 1 ≤ ((l2 ++ l1).filter fun m => hopB m && decide (cl m.dst = cl x0.dst)).length := by
    refine List.length_pos_iff.2 (List.ne_nil_of_mem (List.mem_filter.2 ⟨hy, by simp [hb, e]⟩))
  have h2 : hopC cl (l1 ++ x0 :: l2) (cl x0.dst) = (((l2 ++ l1).filter fun m => hopB m && decide (cl m.dst = cl x0.dst)).length : Int) + if hopB x0 = true then 1 else 0 := by
    unfold hopC
    rw [List.filter_append, List.filter_append, List.length_append, List.length_append, List.filter_cons]
    by_cases hx : hopB x0 = true
    · rw [if_pos (by simp [hx]), if_pos hx, List.length_cons]
      omega
    · rw [if_neg (by simp [hx]), if_neg hx]
      omega
  unfold keepB at h
  rw [h2] at h
  simp only [Bool.or_eq_true, Bool.and_eq_true, decide_eq_true_eq] at h
  rcases h with h | ⟨h, hx⟩
  · split at h <;> omega
  · rw [if_pos hx] at h
    omega
set_option maxHeartbeats 8000000 in
theorem keeps_any {X bc bl br B : Nat} {r0 r1 fr : Int} {nC : Nat} {fC : Pl → Option Value} {nL nR : Nat} {left : Pl → Option Pl} {rd : Pl → Int} {vd : Value} {done : List Mv} {w : World} (k : WoS X bc bl br B r0 r1 fr nC fC nL nR left rd vd done w) (Y HB : Nat) (h0 h1 : Int) (hY : w.cell? ⟨Y, 0, none⟩ = some (.pointer (some ⟨X, 0, none⟩))) (hH : w.rowIs HB 33 2 (fun i => if i = 0 then .int .i64 h0 else .int .i64 h1)) (m : Mv) (hwf : PlWf m.dst) (c : Int) (hc : c = 0 ∨ c = 1) (hf : fC m.dst = some (.int .i64 c)) (b : Bool) (hb : (decide ((if c = 0 then h0 else h1) = 0) || (decide ((if c = 0 then h0 else h1) = 1) && hopB m)) = b) :
    Calls Try.prog 28 #[.agg #[.int .i64 m.src.kind, .int .i64 m.src.cls, .int .i64 m.src.n, .int .i64 m.dst.kind, .int .i64 m.dst.cls, .int .i64 m.dst.n], .pointer (some ⟨HB, 0, none⟩), .pointer (some ⟨Y, 0, none⟩)] w fun e w' => e = .returned (.bool b) ∧ Below w.heap.size w w' := by
  obtain ⟨N, hN⟩ : ∃ N, w.heap.size = N := ⟨_, rfl⟩
  obtain ⟨W, hW⟩ : ∃ W, W = w.alloc (.cells #[.int .i64 m.src.kind, .int .i64 m.src.cls, .int .i64 m.src.n, .int .i64 m.dst.kind, .int .i64 m.dst.cls, .int .i64 m.dst.n] 29) := ⟨_, rfl⟩
  have hbw : Below w.heap.size w W := by rw [hW]; exact (Below.refl _ _).alloc (Nat.le_refl _) _
  have t0 := topO w #[.int .i64 m.src.kind, .int .i64 m.src.cls, .int .i64 m.src.n, .int .i64 m.dst.kind, .int .i64 m.dst.cls, .int .i64 m.dst.n] 29
  rw [← hW, hN] at t0
  have zW : N < W.heap.size := by rw [hW, ← hN]; simp
  have kW := k.below hbw
  have lY := block_lt hY
  have y0 := (hbw.cell (p := ⟨Y, 0, none⟩) lY).trans hY
  have rH := hH.of_block (hbw.block _ hH.lt)
  have HS : Hid (∀ w', Below W.heap.size W w' → (fun w' => w'.cell? ⟨Y, 0, none⟩ = some (.pointer (some ⟨X, 0, none⟩)) ∧ w'.cell? ⟨X, 3, none⟩ = some (.map (some bc)) ∧ w'.cell? ⟨HB, 0, none⟩ = some (.int .i64 h0) ∧ w'.cell? ⟨HB, 1, none⟩ = some (.int .i64 h1) ∧ w'.cell? ⟨N, 0, none⟩ = some (.int .i64 m.src.kind) ∧ w'.cell? ⟨N, 1, none⟩ = some (.int .i64 m.src.cls) ∧ w'.cell? ⟨N, 2, none⟩ = some (.int .i64 m.src.n) ∧ w'.cell? ⟨N, 3, none⟩ = some (.int .i64 m.dst.kind) ∧ w'.cell? ⟨N, 4, none⟩ = some (.int .i64 m.dst.cls) ∧ w'.cell? ⟨N, 5, none⟩ = some (.int .i64 m.dst.n) ∧ (Instr.lookup 40 (.map (some bc)) (.agg #[.int .i64 m.dst.kind, .int .i64 m.dst.cls, .int .i64 m.dst.n]) false).run Try.prog w' = .ok (.int .i64 c) w') w') := fun w' hh => by
    have kk := kW.below hh
    have rr := rH.of_block (hh.block _ rH.lt)
    refine ⟨(hh.cell (p := ⟨Y, 0, none⟩) (by show Y < _; have := hbw.size; have : Y < w.heap.size := lY; omega)).trans y0, kk.bx.cell (i := 3) (by omega), rr.cell (i := 0) (by omega), rr.cell (i := 1) (by omega), (hh.cell (p := ⟨N, 0, none⟩) zW).trans (t0 0), (hh.cell (p := ⟨N, 1, none⟩) zW).trans (t0 1), (hh.cell (p := ⟨N, 2, none⟩) zW).trans (t0 2), (hh.cell (p := ⟨N, 3, none⟩) zW).trans (t0 3), (hh.cell (p := ⟨N, 4, none⟩) zW).trans (t0 4), (hh.cell (p := ⟨N, 5, none⟩) zW).trans (t0 5), ?_⟩
    have h := kk.mc.look Try.underlying40 (zeroI w') hwf
    rw [hf] at h
    exact h
  have HW : Hid (W = w.alloc (.cells #[.int .i64 m.src.kind, .int .i64 m.src.cls, .int .i64 m.src.n, .int .i64 m.dst.kind, .int .i64 m.dst.cls, .int .i64 m.dst.n] 29)) := hW
  have HN : Hid (w.heap.size = N) := hN
  have HBW : Hid (Below w.heap.size w W) := hbw
  obtain ⟨hv, hhv⟩ : ∃ hv, (if c = 0 then h0 else h1) = hv := ⟨_, rfl⟩
  rw [hhv] at hb
  have HC := fun W' => isHop_any m.src.kind m.src.cls m.src.n m.dst.kind m.dst.cls m.dst.n W'
  obtain ⟨hp, hhp⟩ : ∃ hp, hopB m = hp := ⟨_, rfl⟩
  have HHP : Hid (hopB ⟨⟨m.src.kind, m.src.cls, m.src.n⟩, ⟨m.dst.kind, m.dst.cls, m.dst.n⟩⟩ = hp) := hhp
  rw [hhp] at hb
  clear hhp hN hW hbw t0 kW lY y0 rH hf hH hY k hwf
  rcases hc with rfl | rfl
  · have hv0 : h0 = hv := by simpa using hhv
    clear hhv
    subst hv0
    go_enter Try.func28, Try.ntmps28
    go_upto_region 1 with fail
    rw [← HW.out, HN.out]
    refine wp_region_X (fun w' => w'.cell? ⟨Y, 0, none⟩ = some (.pointer (some ⟨X, 0, none⟩)) ∧ w'.cell? ⟨X, 3, none⟩ = some (.map (some bc)) ∧ w'.cell? ⟨HB, 0, none⟩ = some (.int .i64 h0) ∧ w'.cell? ⟨HB, 1, none⟩ = some (.int .i64 h1) ∧ w'.cell? ⟨N, 0, none⟩ = some (.int .i64 m.src.kind) ∧ w'.cell? ⟨N, 1, none⟩ = some (.int .i64 m.src.cls) ∧ w'.cell? ⟨N, 2, none⟩ = some (.int .i64 m.src.n) ∧ w'.cell? ⟨N, 3, none⟩ = some (.int .i64 m.dst.kind) ∧ w'.cell? ⟨N, 4, none⟩ = some (.int .i64 m.dst.cls) ∧ w'.cell? ⟨N, 5, none⟩ = some (.int .i64 m.dst.n) ∧ (Instr.lookup 40 (.map (some bc)) (.agg #[.int .i64 m.dst.kind, .int .i64 m.dst.cls, .int .i64 m.dst.n]) false).run Try.prog w' = .ok (.int .i64 0) w') 99 (by kernel_rfl) (HS.out _ (Below.refl _ _).drew) (fun hHeld => ?_)
    refine wpXt (v := ?_) 0 rfl (by kernel_rfl) (fun _ _ _ h => h) (by rfl) ?_ hHeld ?_
    rotate_left
    · intro w' hSw
      go_simp <;> with_reducible rfl
    try simp only [Act.put, List.setIfInBounds_toArray, List.set_cons_zero, List.set_cons_succ]
    refine wpXt (v := ?_) 1 rfl (by kernel_rfl) (fun _ _ _ h => h) (by rfl) ?_ hHeld ?_
    rotate_left
    · intro w' hSw
      go_simp <;> with_reducible rfl
    try simp only [Act.put, List.setIfInBounds_toArray, List.set_cons_zero, List.set_cons_succ]
    refine wpXt (v := ?_) 2 rfl (by kernel_rfl) (fun _ _ _ h => h) (by rfl) ?_ hHeld ?_
    rotate_left
    · intro w' hSw
      go_simp <;> with_reducible rfl
    try simp only [Act.put, List.setIfInBounds_toArray, List.set_cons_zero, List.set_cons_succ]
    refine wpXt (v := ?_) 3 rfl (by kernel_rfl) (fun _ _ _ h => h) (by rfl) ?_ hHeld ?_
    rotate_left
    · intro w' hSw
      go_simp <;> with_reducible rfl
    try simp only [Act.put, List.setIfInBounds_toArray, List.set_cons_zero, List.set_cons_succ]
    refine wpXt (v := ?_) 4 rfl (by kernel_rfl) (fun _ _ _ h => h) (by rfl) ?_ hHeld ?_
    rotate_left
    · intro w' hSw
      go_simp <;> with_reducible rfl
    try simp only [Act.put, List.setIfInBounds_toArray, List.set_cons_zero, List.set_cons_succ]
    refine wpXt (v := ?_) 5 rfl (by kernel_rfl) (fun _ _ _ h => h) (by rfl) ?_ hHeld ?_
    rotate_left
    · intro w' hSw
      go_simp <;> with_reducible rfl
    try simp only [Act.put, List.setIfInBounds_toArray, List.set_cons_zero, List.set_cons_succ]
    refine wpXt (v := .int .i64 0) 6 rfl (by kernel_rfl) (fun _ _ _ h => h) (by rfl) ?_ hHeld ?_
    · intro w' hSw
      exact execO_lookup _ _ _ _ rfl rfl rfl hSw.2.2.2.2.2.2.2.2.2.2
    try simp only [Act.put, List.setIfInBounds_toArray, List.set_cons_zero, List.set_cons_succ]
    refine wpXt (v := ?_) 7 rfl (by kernel_rfl) (fun _ _ _ h => h) (by rfl) ?_ hHeld ?_
    rotate_left
    · intro w' hSw
      go_simp <;> with_reducible rfl
    try simp only [Act.put, List.setIfInBounds_toArray, List.set_cons_zero, List.set_cons_succ]
    refine wpXt (v := ?_) 8 rfl (by kernel_rfl) (fun _ _ _ h => h) (by rfl) ?_ hHeld ?_
    rotate_left
    · intro w' hSw
      go_simp <;> with_reducible rfl
    try simp only [Act.put, List.setIfInBounds_toArray, List.set_cons_zero, List.set_cons_succ]
    refine wpXt (v := ?_) 9 rfl (by kernel_rfl) (fun _ _ _ h => h) (by rfl) ?_ hHeld ?_
    rotate_left
    · intro w' hSw
      go_simp <;> with_reducible rfl
    try simp only [Act.put, List.setIfInBounds_toArray, List.set_cons_zero, List.set_cons_succ]
    refine wpAnyX_done (by kernel_rfl) ?_ _
    have hsd : Below W.heap.size W W.drew := (Below.refl _ _).drew
    have hS2 := HS.out _ hsd
    obtain ⟨s0, s1, s2, s3, s4, s5, s6, s7, s8, s9, -⟩ := hS2
    have HC1 := HC W.drew
    by_cases hz : h0 = 0
    · have q : (h0 == 0) = true := by simpa using hz
      have HH : Hid (true = b) := by show _ = _; rw [← hb, hz]; rfl
      clear hb hz hHeld HS HC1
      go_wp2
      go_ret
      exact ⟨ret_bool HH.out, HBW.out.trans (hsd.mono HBW.out.size)⟩
    · have q : (h0 == 0) = false := by simpa using hz
      by_cases ho : h0 = 1
      · have q2 : (h0 == 1) = true := by simpa using ho
        have HH : Hid (hp = b) := by show _ = _; rw [← hb, ho]; rfl
        clear hb hz ho hHeld HS
        go_wp2_with (go_at_call 24; refine HC1.mono ?_; clear HC1; rintro e w1 ⟨rfl, hb1⟩; rw [HHP.out])
        go_ret
        exact ⟨ret_bool HH.out, HBW.out.trans ((hsd.trans (hb1.mono hsd.size)).mono HBW.out.size)⟩
      · have q2 : (h0 == 1) = false := by simpa using ho
        have HH : Hid (false = b) := by show _ = _; rw [← hb]; simp [hz, ho]
        clear hb hz ho hHeld HS HC1
        go_wp2
        go_ret
        exact ⟨ret_bool HH.out, HBW.out.trans (hsd.mono HBW.out.size)⟩
  · have hv0 : h1 = hv := by simpa using hhv
    clear hhv
    subst hv0
    go_enter Try.func28, Try.ntmps28
    go_upto_region 1 with fail
    rw [← HW.out, HN.out]
    refine wp_region_X (fun w' => w'.cell? ⟨Y, 0, none⟩ = some (.pointer (some ⟨X, 0, none⟩)) ∧ w'.cell? ⟨X, 3, none⟩ = some (.map (some bc)) ∧ w'.cell? ⟨HB, 0, none⟩ = some (.int .i64 h0) ∧ w'.cell? ⟨HB, 1, none⟩ = some (.int .i64 h1) ∧ w'.cell? ⟨N, 0, none⟩ = some (.int .i64 m.src.kind) ∧ w'.cell? ⟨N, 1, none⟩ = some (.int .i64 m.src.cls) ∧ w'.cell? ⟨N, 2, none⟩ = some (.int .i64 m.src.n) ∧ w'.cell? ⟨N, 3, none⟩ = some (.int .i64 m.dst.kind) ∧ w'.cell? ⟨N, 4, none⟩ = some (.int .i64 m.dst.cls) ∧ w'.cell? ⟨N, 5, none⟩ = some (.int .i64 m.dst.n) ∧ (Instr.lookup 40 (.map (some bc)) (.agg #[.int .i64 m.dst.kind, .int .i64 m.dst.cls, .int .i64 m.dst.n]) false).run Try.prog w' = .ok (.int .i64 1) w') 99 (by kernel_rfl) (HS.out _ (Below.refl _ _).drew) (fun hHeld => ?_)
    refine wpXt (v := ?_) 0 rfl (by kernel_rfl) (fun _ _ _ h => h) (by rfl) ?_ hHeld ?_
    rotate_left
    · intro w' hSw
      go_simp <;> with_reducible rfl
    try simp only [Act.put, List.setIfInBounds_toArray, List.set_cons_zero, List.set_cons_succ]
    refine wpXt (v := ?_) 1 rfl (by kernel_rfl) (fun _ _ _ h => h) (by rfl) ?_ hHeld ?_
    rotate_left
    · intro w' hSw
      go_simp <;> with_reducible rfl
    try simp only [Act.put, List.setIfInBounds_toArray, List.set_cons_zero, List.set_cons_succ]
    refine wpXt (v := ?_) 2 rfl (by kernel_rfl) (fun _ _ _ h => h) (by rfl) ?_ hHeld ?_
    rotate_left
    · intro w' hSw
      go_simp <;> with_reducible rfl
    try simp only [Act.put, List.setIfInBounds_toArray, List.set_cons_zero, List.set_cons_succ]
    refine wpXt (v := ?_) 3 rfl (by kernel_rfl) (fun _ _ _ h => h) (by rfl) ?_ hHeld ?_
    rotate_left
    · intro w' hSw
      go_simp <;> with_reducible rfl
    try simp only [Act.put, List.setIfInBounds_toArray, List.set_cons_zero, List.set_cons_succ]
    refine wpXt (v := ?_) 4 rfl (by kernel_rfl) (fun _ _ _ h => h) (by rfl) ?_ hHeld ?_
    rotate_left
    · intro w' hSw
      go_simp <;> with_reducible rfl
    try simp only [Act.put, List.setIfInBounds_toArray, List.set_cons_zero, List.set_cons_succ]
    refine wpXt (v := ?_) 5 rfl (by kernel_rfl) (fun _ _ _ h => h) (by rfl) ?_ hHeld ?_
    rotate_left
    · intro w' hSw
      go_simp <;> with_reducible rfl
    try simp only [Act.put, List.setIfInBounds_toArray, List.set_cons_zero, List.set_cons_succ]
    refine wpXt (v := .int .i64 1) 6 rfl (by kernel_rfl) (fun _ _ _ h => h) (by rfl) ?_ hHeld ?_
    · intro w' hSw
      exact execO_lookup _ _ _ _ rfl rfl rfl hSw.2.2.2.2.2.2.2.2.2.2
    try simp only [Act.put, List.setIfInBounds_toArray, List.set_cons_zero, List.set_cons_succ]
    refine wpXt (v := ?_) 7 rfl (by kernel_rfl) (fun _ _ _ h => h) (by rfl) ?_ hHeld ?_
    rotate_left
    · intro w' hSw
      go_simp <;> with_reducible rfl
    try simp only [Act.put, List.setIfInBounds_toArray, List.set_cons_zero, List.set_cons_succ]
    refine wpXt (v := ?_) 8 rfl (by kernel_rfl) (fun _ _ _ h => h) (by rfl) ?_ hHeld ?_
    rotate_left
    · intro w' hSw
      go_simp <;> with_reducible rfl
    try simp only [Act.put, List.setIfInBounds_toArray, List.set_cons_zero, List.set_cons_succ]
    refine wpXt (v := ?_) 9 rfl (by kernel_rfl) (fun _ _ _ h => h) (by rfl) ?_ hHeld ?_
    rotate_left
    · intro w' hSw
      go_simp <;> with_reducible rfl
    try simp only [Act.put, List.setIfInBounds_toArray, List.set_cons_zero, List.set_cons_succ]
    refine wpAnyX_done (by kernel_rfl) ?_ _
    have hsd : Below W.heap.size W W.drew := (Below.refl _ _).drew
    have hS2 := HS.out _ hsd
    obtain ⟨s0, s1, s2, s3, s4, s5, s6, s7, s8, s9, -⟩ := hS2
    have HC1 := HC W.drew
    by_cases hz : h1 = 0
    · have q : (h1 == 0) = true := by simpa using hz
      have HH : Hid (true = b) := by show _ = _; rw [← hb, hz]; rfl
      clear hb hz hHeld HS HC1
      go_wp2
      go_ret
      exact ⟨ret_bool HH.out, HBW.out.trans (hsd.mono HBW.out.size)⟩
    · have q : (h1 == 0) = false := by simpa using hz
      by_cases ho : h1 = 1
      · have q2 : (h1 == 1) = true := by simpa using ho
        have HH : Hid (hp = b) := by show _ = _; rw [← hb, ho]; rfl
        clear hb hz ho hHeld HS
        go_wp2_with (go_at_call 24; refine HC1.mono ?_; clear HC1; rintro e w1 ⟨rfl, hb1⟩; rw [HHP.out])
        go_ret
        exact ⟨ret_bool HH.out, HBW.out.trans ((hsd.trans (hb1.mono hsd.size)).mono HBW.out.size)⟩
      · have q2 : (h1 == 1) = false := by simpa using ho
        have HH : Hid (false = b) := by show _ = _; rw [← hb]; simp [hz, ho]
        clear hb hz ho hHeld HS HC1
        go_wp2
        go_ret
        exact ⟨ret_bool HH.out, HBW.out.trans (hsd.mono HBW.out.size)⟩
/-- The first one of which it holds. -/
def ixI (l : List Mv) (P : Mv → Bool) : Int := match l.findIdx? P with | some k => (k : Int) | none => -1
theorem ixI_some {l : List Mv} {P : Mv → Bool} {j : Nat} (hj : j < l.length) (h1 : P l[j] = true) (h2 : ∀ m ∈ l.take j, P m = false) : ixI l P = (j : Int) := by
  unfold ixI
  have : l.findIdx? P = some j := by
    rw [List.findIdx?_eq_some_iff_getElem]
    refine ⟨hj, h1, fun i hi => ?_⟩
    have : l[i] ∈ l.take j := by
      rw [List.mem_take_iff_getElem]
      exact ⟨i, by omega, rfl⟩
    rw [h2 _ this]
    simp
  rw [this]
theorem ixI_none {l : List Mv} {P : Mv → Bool} (h : ∀ m ∈ l, P m = false) : ixI l P = -1 := by
  unfold ixI
  have : l.findIdx? P = none := by
    rw [List.findIdx?_eq_none_iff]
    exact h
  rw [this]
set_option maxHeartbeats 4000000 in
theorem indexFunc_any (vr : Value) (ring : List Mv) (hl5 : ring.length ≤ 5000) (Pb : Mv → Bool) (HB Y : Nat) (w : World) (hl : SlOf w 6 RMv vr ring) (HK : Hid (∀ m ∈ ring, ∀ w', Below w.heap.size w w' → Calls Try.prog 28 #[.agg #[.int .i64 m.src.kind, .int .i64 m.src.cls, .int .i64 m.src.n, .int .i64 m.dst.kind, .int .i64 m.dst.cls, .int .i64 m.dst.n], .pointer (some ⟨HB, 0, none⟩), .pointer (some ⟨Y, 0, none⟩)] w' fun e w'' => e = .returned (.bool (Pb m)) ∧ Below w'.heap.size w' w'')) :
    Calls Try.prog 29 #[vr, .func (.func 28) #[] #[.pointer (some ⟨HB, 0, none⟩), .pointer (some ⟨Y, 0, none⟩)]] w fun e w' => e = .returned (.int .i64 (ixI ring Pb)) ∧ Below w.heap.size w w' := by
  obtain ⟨a, c, rfl, -⟩ := hl.out
  obtain ⟨n, hn⟩ : ∃ n, ring.length = n := ⟨_, rfl⟩
  rw [hn] at hl
  have HL : Hid (SlOf w 6 RMv (.slice a n c) ring ∧ ring.length = n) := ⟨hl, hn⟩
  have hn5 : n ≤ 5000 := by omega
  have HB0 : Hid (Below w.heap.size w w) := Below.refl _ _
  rw [hn]
  clear hl hn hl5
  go_enter Try.func29, Try.ntmps29
  go_wp2
  go_loopw [8] (fun i wr => ∃ j : Nat, j ≤ n ∧ i = .int .i64 j ∧ Hid (Below w.heap.size w wr ∧ ∀ m ∈ ring.take j, Pb m = false)) (fun i _ => n - (intOf i).toNat)
  case atStart => exact ⟨0, Nat.zero_le _, rfl, HB0.out, fun m hm => by simp at hm⟩
  case round =>
    clear HB0
    obtain ⟨j, hj, rfl, HI⟩ := hrel
    by_cases hlt : j < n
    · have hjl : j < ring.length := by rw [HL.out.2]; exact hlt
      obtain ⟨b8, off8, rfl, hb8, e0, e1, e2, e3, e4, e5⟩ := mv_at HL.out.1 j hjl
      have hlow := HI.out.1
      replace e0 := (hlow.cell (p := ⟨b8, _, none⟩) hb8).trans e0
      replace e1 := (hlow.cell (p := ⟨b8, _, none⟩) hb8).trans e1
      replace e2 := (hlow.cell (p := ⟨b8, _, none⟩) hb8).trans e2
      replace e3 := (hlow.cell (p := ⟨b8, _, none⟩) hb8).trans e3
      replace e4 := (hlow.cell (p := ⟨b8, _, none⟩) hb8).trans e4
      replace e5 := (hlow.cell (p := ⟨b8, _, none⟩) hb8).trans e5
      have HC := HK.out ring[j] (List.getElem_mem hjl) wr hlow
      have HT : Hid (ring.take (j + 1) = ring.take j ++ [ring[j]]) := List.take_succ_eq_append_getElem hjl
      have HJ : Hid (ring[j] = ring[j]) := rfl
      cases hP : Pb ring[j]
      · rw [hP] at HC
        have HE : Hid (∀ w', Below wr.heap.size wr w' → Below w.heap.size w w' ∧ ∀ m ∈ ring.take (j + 1), Pb m = false) := fun w' hh => by
          refine ⟨hlow.trans (hh.mono hlow.size), fun m hm => ?_⟩
          rw [HT.out] at hm
          rcases List.mem_append.1 hm with hm | hm
          · exact HI.out.2 m hm
          · rw [List.mem_singleton.1 hm]
            exact hP
        clear HI hlow hb8 hP HT HJ
        generalize ring[j] = m at *
        go_wp2_with (go_at_call 28; refine HC.mono ?_; clear HC; rintro e w1 ⟨rfl, hb1⟩)
        exact ⟨⟨j + 1, by omega, by simp, HE.out _ hb1⟩, by simp [intOf]; omega⟩
      · rw [hP] at HC
        have HE : Hid ((∀ w', Below wr.heap.size wr w' → Below w.heap.size w w') ∧ (j : Int) = ixI ring Pb) := ⟨fun w' hh => hlow.trans (hh.mono hlow.size), (ixI_some hjl hP HI.out.2).symm⟩
        clear HI hlow hb8 hP HT HJ
        generalize ring[j] = m at *
        go_wp2_with (go_at_call 28; refine HC.mono ?_; clear HC; rintro e w1 ⟨rfl, hb1⟩)
        go_ret
        exact ⟨ret_int HE.out.2, HE.out.1 _ hb1⟩
    · have hjn : j = n := by omega
      subst hjn
      have HE : Hid (Below w.heap.size w wr ∧ ∀ m ∈ ring, Pb m = false) := by
        have h := HI.out
        rw [List.take_of_length_le (by rw [HL.out.2]; exact Nat.le_refl _)] at h
        exact h
      clear HI
      go_wp2
      go_ret
      exact ⟨ret_int (ixI_none HE.out.2).symm, HE.out.1⟩
end Go.Proofs.Ytdlglinbjkaokab
