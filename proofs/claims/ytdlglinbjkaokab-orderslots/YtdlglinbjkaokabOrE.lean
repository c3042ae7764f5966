/-
  The contract of the closure 'isFree' of 'work.free'.
-/
import Derived.Test.YtdlglinbjkaokabOrD
namespace Go.Proofs.Ytdlglinbjkaokab
open Go.RowKit
set_option linter.unusedVariables false

def freeB (left : Pl → Option Pl) (rd : Pl → Int) (p : Pl) : Bool := (left p).isSome && decide (rd p = 0)
theorem leftV_getD (left : Pl → Option Pl) (p : Pl) : (leftV left p).getD (.agg #[.int .i64 0, .int .i64 0, .int .i64 0]) = plVal ((left p).getD ⟨0, 0, 0⟩) := by
  unfold leftV
  cases left p <;> rfl
theorem leftV_some (left : Pl → Option Pl) (p : Pl) : (leftV left p).isSome = (left p).isSome := by
  unfold leftV
  cases left p <;> rfl
set_option maxHeartbeats 8000000 in
theorem isFree_any {X bc bl br B : Nat} {r0 r1 fr : Int} {nC : Nat} {fC : Pl → Option Value} {nL nR : Nat} {left : Pl → Option Pl} {rd : Pl → Int} {vd : Value} {done : List Mv} {w : World} (k : WoS X bc bl br B r0 r1 fr nC fC nL nR left rd vd done w) (p : Pl) (hp : PlWf p) (Y : Nat) (hY : w.cell? ⟨Y, 0, none⟩ = some (.pointer (some ⟨X, 0, none⟩))) (b : Bool) (hb : freeB left rd p = b) :
    Calls Try.prog 19 #[.agg #[.int .i64 p.kind, .int .i64 p.cls, .int .i64 p.n], .pointer (some ⟨Y, 0, none⟩)] w fun e w' => e = .returned (.bool b) ∧ Below w.heap.size w w' := by
  obtain ⟨N, hN⟩ : ∃ N, w.heap.size = N := ⟨_, rfl⟩
  obtain ⟨W, hW⟩ : ∃ W, W = w.alloc (.cells #[.int .i64 p.kind, .int .i64 p.cls, .int .i64 p.n] 26) := ⟨_, rfl⟩
  have hbw : Below w.heap.size w W := by rw [hW]; exact (Below.refl _ _).alloc (Nat.le_refl _) _
  have t0 := topO w #[.int .i64 p.kind, .int .i64 p.cls, .int .i64 p.n] 26
  rw [← hW, hN] at t0
  have zW : N < W.heap.size := by rw [hW, ← hN]; simp
  have kW := k.below hbw
  have lY := block_lt hY
  have lX := k.bx.lt
  have y0 := (hbw.cell (p := ⟨Y, 0, none⟩) lY).trans hY
  have x4 : W.cell? ⟨X, 4, none⟩ = some (.map (some bl)) := kW.bx.cell (i := 4) (by omega)
  have x5 : W.cell? ⟨X, 5, none⟩ = some (.map (some br)) := kW.bx.cell (i := 5) (by omega)
  obtain ⟨fR, hR, hR2⟩ := kW.mr
  obtain ⟨il, hil⟩ : ∃ il, (left p).isSome = il := ⟨_, rfl⟩
  obtain ⟨rv, hrv⟩ : ∃ rv, rd p = rv := ⟨_, rfl⟩
  obtain ⟨z0, z1, z2, hz⟩ : ∃ z0 z1 z2, plVal ((left p).getD ⟨0, 0, 0⟩) = .agg #[.int .i64 z0, .int .i64 z1, .int .i64 z2] := ⟨_, _, _, rfl⟩
  have HS : Hid (∀ w', Below W.heap.size W w' → (fun w' => w'.cell? ⟨Y, 0, none⟩ = some (.pointer (some ⟨X, 0, none⟩)) ∧ w'.cell? ⟨X, 4, none⟩ = some (.map (some bl)) ∧ w'.cell? ⟨X, 5, none⟩ = some (.map (some br)) ∧ w'.cell? ⟨N, 0, none⟩ = some (.int .i64 p.kind) ∧ w'.cell? ⟨N, 1, none⟩ = some (.int .i64 p.cls) ∧ w'.cell? ⟨N, 2, none⟩ = some (.int .i64 p.n) ∧ (Instr.lookup 43 (.map (some bl)) (.agg #[.int .i64 p.kind, .int .i64 p.cls, .int .i64 p.n]) true).run Try.prog w' = .ok (.tuple #[.agg #[.int .i64 z0, .int .i64 z1, .int .i64 z2], .bool il]) w' ∧ (Instr.lookup 40 (.map (some br)) (.agg #[.int .i64 p.kind, .int .i64 p.cls, .int .i64 p.n]) false).run Try.prog w' = .ok (.int .i64 rv) w') w') := fun w' hh => by
    have lX' := kW.bx.lt
    refine ⟨(hh.cell (p := ⟨Y, 0, none⟩) (by show Y < _; omega)).trans y0, (hh.cell (p := ⟨X, 4, none⟩) lX').trans x4, (hh.cell (p := ⟨X, 5, none⟩) lX').trans x5, (hh.cell (p := ⟨N, 0, none⟩) zW).trans (t0 0), (hh.cell (p := ⟨N, 1, none⟩) zW).trans (t0 1), (hh.cell (p := ⟨N, 2, none⟩) zW).trans (t0 2), ?_, ?_⟩
    · have h := (kW.ml.below hh kW.ml.lt).look_ok Try.underlying43 (zeroPl w') hp
      rw [leftV_getD, leftV_some, hil, hz] at h
      exact h
    · have h := (hR.below hh hR.lt).look Try.underlying40 (zeroI w') hp
      rw [hR2 p, hrv] at h
      exact h
  have HW : Hid (W = w.alloc (.cells #[.int .i64 p.kind, .int .i64 p.cls, .int .i64 p.n] 26)) := hW
  have HN : Hid (w.heap.size = N) := hN
  have HBW : Hid (Below w.heap.size w W) := hbw
  have hfb : freeB left rd p = (il && decide (rv = 0)) := by unfold freeB; rw [hil, hrv]
  rw [hfb] at hb
  clear hfb hN hW hbw t0 kW lY lX y0 x4 x5 hR hR2 hil hrv hz hY k
  go_enter Try.func19, Try.ntmps19
  go_upto_region 1 with fail
  rw [← HW.out, HN.out]
  --CUT1
  refine wp_region_X (fun w' => w'.cell? ⟨Y, 0, none⟩ = some (.pointer (some ⟨X, 0, none⟩)) ∧ w'.cell? ⟨X, 4, none⟩ = some (.map (some bl)) ∧ w'.cell? ⟨X, 5, none⟩ = some (.map (some br)) ∧ w'.cell? ⟨N, 0, none⟩ = some (.int .i64 p.kind) ∧ w'.cell? ⟨N, 1, none⟩ = some (.int .i64 p.cls) ∧ w'.cell? ⟨N, 2, none⟩ = some (.int .i64 p.n) ∧ (Instr.lookup 43 (.map (some bl)) (.agg #[.int .i64 p.kind, .int .i64 p.cls, .int .i64 p.n]) true).run Try.prog w' = .ok (.tuple #[.agg #[.int .i64 z0, .int .i64 z1, .int .i64 z2], .bool il]) w' ∧ (Instr.lookup 40 (.map (some br)) (.agg #[.int .i64 p.kind, .int .i64 p.cls, .int .i64 p.n]) false).run Try.prog w' = .ok (.int .i64 rv) w') 99 (by kernel_rfl) (HS.out _ (Below.refl _ _).drew) (fun hHeld => ?_)
  refine wpXt (v := ?_) 0 rfl (by kernel_rfl) (fun _ _ _ h => h) (by rfl) ?_ hHeld ?_
  rotate_left
  · intro w' hSw
    go_simp <;> with_reducible rfl
  try simp only [Act.put, List.setIfInBounds_toArray, List.set_cons_zero, List.set_cons_succ]
  refine wpXt (v := ?_) 1 rfl (by kernel_rfl) (fun _ _ _ h => h) (by rfl) ?_ hHeld ?_
  rotate_left
  · intro w' hSw
    go_simp <;> with_reducible rfl
  try simp only [Act.put, List.setIfInBounds_toArray, List.set_cons_zero, List.set_cons_succ]
  refine wpXt (v := ?_) 2 rfl (by kernel_rfl) (fun _ _ _ h => h) (by rfl) ?_ hHeld ?_
  rotate_left
  · intro w' hSw
    go_simp <;> with_reducible rfl
  try simp only [Act.put, List.setIfInBounds_toArray, List.set_cons_zero, List.set_cons_succ]
  refine wpXt (v := ?_) 3 rfl (by kernel_rfl) (fun _ _ _ h => h) (by rfl) ?_ hHeld ?_
  rotate_left
  · intro w' hSw
    go_simp <;> with_reducible rfl
  try simp only [Act.put, List.setIfInBounds_toArray, List.set_cons_zero, List.set_cons_succ]
  refine wpXt (v := ?_) 4 rfl (by kernel_rfl) (fun _ _ _ h => h) (by rfl) ?_ hHeld ?_
  rotate_left
  · intro w' hSw
    go_simp <;> with_reducible rfl
  try simp only [Act.put, List.setIfInBounds_toArray, List.set_cons_zero, List.set_cons_succ]
  refine wpXt (v := .tuple #[.agg #[.int .i64 z0, .int .i64 z1, .int .i64 z2], .bool il]) 5 rfl (by kernel_rfl) (fun _ _ _ h => h) (by rfl) ?_ hHeld ?_
  · intro w' hSw
    exact execO_lookup _ _ _ _ rfl rfl rfl hSw.2.2.2.2.2.2.1
  try simp only [Act.put, List.setIfInBounds_toArray, List.set_cons_zero, List.set_cons_succ]
  refine wpXt (v := ?_) 6 rfl (by kernel_rfl) (fun _ _ _ h => h) (by rfl) ?_ hHeld ?_
  rotate_left
  · intro w' hSw
    go_simp <;> with_reducible rfl
  try simp only [Act.put, List.setIfInBounds_toArray, List.set_cons_zero, List.set_cons_succ]
  refine wpXt (v := ?_) 7 rfl (by kernel_rfl) (fun _ _ _ h => h) (by rfl) ?_ hHeld ?_
  rotate_left
  · intro w' hSw
    go_simp <;> with_reducible rfl
  try simp only [Act.put, List.setIfInBounds_toArray, List.set_cons_zero, List.set_cons_succ]
  refine wpXt (v := ?_) 8 rfl (by kernel_rfl) (fun _ _ _ h => h) (by rfl) ?_ hHeld ?_
  rotate_left
  · intro w' hSw
    go_simp <;> with_reducible rfl
  try simp only [Act.put, List.setIfInBounds_toArray, List.set_cons_zero, List.set_cons_succ]
  --CUT2
  refine wpXs 9 rfl (by kernel_rfl) (fun K hK => ?_)
  go_simp
  refine hK.out _ _ (HS.out _ (((Below.refl W.heap.size W).drew).alloc (Nat.le_refl _) _)) (fun hHeld => ?_)
  clear hK K
  try simp only [Act.put, List.setIfInBounds_toArray, List.set_cons_zero, List.set_cons_succ]
  --CUT3
  refine wpXs 10 rfl (by kernel_rfl) (fun K hK => ?_)
  go_simp
  --CUT4
  refine hK.out _ _ (HS.out _ (((Below.refl W.heap.size W).drew).alloc (Nat.le_refl _) _)) (fun hHeld => ?_)
  clear hK K
  try simp only [Act.put, List.setIfInBounds_toArray, List.set_cons_zero, List.set_cons_succ]
  refine wpXt (v := ?_) 11 rfl (by kernel_rfl) (fun _ _ _ h => h) (by rfl) ?_ hHeld ?_
  rotate_left
  · intro w' hSw
    go_simp <;> with_reducible rfl
  try simp only [Act.put, List.setIfInBounds_toArray, List.set_cons_zero, List.set_cons_succ]
  refine wpAnyX_done (by kernel_rfl) ?_ _
  obtain ⟨W2, hW2⟩ : ∃ W2, W2 = (W.alloc (.cells #[.int .i64 z0, .int .i64 z1, .int .i64 z2] 26)).drew := ⟨_, rfl⟩
  have hb2 : Below W.heap.size W W2 := by rw [hW2]; exact ((Below.refl W.heap.size W).alloc (Nat.le_refl _) _).drew
  have HW2 : Hid (W2 = (W.alloc (.cells #[.int .i64 z0, .int .i64 z1, .int .i64 z2] 26)).drew) := hW2
  clear hW2 hHeld
  go_upto_region 2 with fail
  rw [← HW2.out]
  --CUT5
  cases il
  · have HH : Hid (false = b) := by show _ = _; rw [← hb]; rfl
    clear hb
    refine wp_region_X (fun w' => w'.cell? ⟨Y, 0, none⟩ = some (.pointer (some ⟨X, 0, none⟩)) ∧ w'.cell? ⟨X, 4, none⟩ = some (.map (some bl)) ∧ w'.cell? ⟨X, 5, none⟩ = some (.map (some br)) ∧ w'.cell? ⟨N, 0, none⟩ = some (.int .i64 p.kind) ∧ w'.cell? ⟨N, 1, none⟩ = some (.int .i64 p.cls) ∧ w'.cell? ⟨N, 2, none⟩ = some (.int .i64 p.n) ∧ (Instr.lookup 43 (.map (some bl)) (.agg #[.int .i64 p.kind, .int .i64 p.cls, .int .i64 p.n]) true).run Try.prog w' = .ok (.tuple #[.agg #[.int .i64 z0, .int .i64 z1, .int .i64 z2], .bool false]) w' ∧ (Instr.lookup 40 (.map (some br)) (.agg #[.int .i64 p.kind, .int .i64 p.cls, .int .i64 p.n]) false).run Try.prog w' = .ok (.int .i64 rv) w') 99 (by kernel_rfl) (HS.out _ hb2.drew) (fun hHeld => ?_)
    refine wpXt (v := ?_) 0 rfl (by kernel_rfl) (fun _ _ _ h => h) (by rfl) ?_ hHeld ?_
    rotate_left
    · intro w' hSw
      go_simp <;> with_reducible rfl
    try simp only [Act.put, List.setIfInBounds_toArray, List.set_cons_zero, List.set_cons_succ]
    refine wpXt (v := ?_) 1 rfl (by kernel_rfl) (fun _ _ _ h => h) (by rfl) ?_ hHeld ?_
    rotate_left
    · intro w' hSw
      go_simp <;> with_reducible rfl
    try simp only [Act.put, List.setIfInBounds_toArray, List.set_cons_zero, List.set_cons_succ]
    refine wpXk 2 rfl (by kernel_rfl) (fun _ _ _ h => h) (by rfl) hHeld ?_
    try simp only [Act.put, List.setIfInBounds_toArray, List.set_cons_zero, List.set_cons_succ]
    refine wpXk 3 rfl (by kernel_rfl) (fun _ _ _ h => h) (by rfl) hHeld ?_
    try simp only [Act.put, List.setIfInBounds_toArray, List.set_cons_zero, List.set_cons_succ]
    refine wpXk 4 rfl (by kernel_rfl) (fun _ _ _ h => h) (by rfl) hHeld ?_
    try simp only [Act.put, List.setIfInBounds_toArray, List.set_cons_zero, List.set_cons_succ]
    refine wpXk 5 rfl (by kernel_rfl) (fun _ _ _ h => h) (by rfl) hHeld ?_
    try simp only [Act.put, List.setIfInBounds_toArray, List.set_cons_zero, List.set_cons_succ]
    refine wpXk 6 rfl (by kernel_rfl) (fun _ _ _ h => h) (by rfl) hHeld ?_
    try simp only [Act.put, List.setIfInBounds_toArray, List.set_cons_zero, List.set_cons_succ]
    refine wpXk 7 rfl (by kernel_rfl) (fun _ _ _ h => h) (by rfl) hHeld ?_
    try simp only [Act.put, List.setIfInBounds_toArray, List.set_cons_zero, List.set_cons_succ]
    refine wpXk 8 rfl (by kernel_rfl) (fun _ _ _ h => h) (by rfl) hHeld ?_
    try simp only [Act.put, List.setIfInBounds_toArray, List.set_cons_zero, List.set_cons_succ]
    refine wpXt (v := ?_) 9 rfl (by kernel_rfl) (fun _ _ _ h => h) (by rfl) ?_ hHeld ?_
    rotate_left
    · intro w' hSw
      go_simp <;> with_reducible rfl
    try simp only [Act.put, List.setIfInBounds_toArray, List.set_cons_zero, List.set_cons_succ]
    refine wpXt (v := ?_) 10 rfl (by kernel_rfl) (fun _ _ _ h => h) (by rfl) ?_ hHeld ?_
    rotate_left
    · intro w' hSw
      go_simp <;> with_reducible rfl
    try simp only [Act.put, List.setIfInBounds_toArray, List.set_cons_zero, List.set_cons_succ]
    refine wpAnyX_done (by kernel_rfl) ?_ _
    go_wp2
    go_ret
    exact ⟨ret_bool HH.out, HBW.out.trans ((hb2.drew).mono HBW.out.size)⟩
  · have HH : Hid ((rv == 0) = b) := by show _ = _; rw [← hb]; rfl
    clear hb
    refine wp_region_X (fun w' => w'.cell? ⟨Y, 0, none⟩ = some (.pointer (some ⟨X, 0, none⟩)) ∧ w'.cell? ⟨X, 4, none⟩ = some (.map (some bl)) ∧ w'.cell? ⟨X, 5, none⟩ = some (.map (some br)) ∧ w'.cell? ⟨N, 0, none⟩ = some (.int .i64 p.kind) ∧ w'.cell? ⟨N, 1, none⟩ = some (.int .i64 p.cls) ∧ w'.cell? ⟨N, 2, none⟩ = some (.int .i64 p.n) ∧ (Instr.lookup 43 (.map (some bl)) (.agg #[.int .i64 p.kind, .int .i64 p.cls, .int .i64 p.n]) true).run Try.prog w' = .ok (.tuple #[.agg #[.int .i64 z0, .int .i64 z1, .int .i64 z2], .bool true]) w' ∧ (Instr.lookup 40 (.map (some br)) (.agg #[.int .i64 p.kind, .int .i64 p.cls, .int .i64 p.n]) false).run Try.prog w' = .ok (.int .i64 rv) w') 99 (by kernel_rfl) (HS.out _ hb2.drew) (fun hHeld => ?_)
    refine wpXt (v := ?_) 0 rfl (by kernel_rfl) (fun _ _ _ h => h) (by rfl) ?_ hHeld ?_
    rotate_left
    · intro w' hSw
      go_simp <;> with_reducible rfl
    try simp only [Act.put, List.setIfInBounds_toArray, List.set_cons_zero, List.set_cons_succ]
    refine wpXt (v := ?_) 1 rfl (by kernel_rfl) (fun _ _ _ h => h) (by rfl) ?_ hHeld ?_
    rotate_left
    · intro w' hSw
      go_simp <;> with_reducible rfl
    try simp only [Act.put, List.setIfInBounds_toArray, List.set_cons_zero, List.set_cons_succ]
    refine wpXt (v := ?_) 2 rfl (by kernel_rfl) (fun _ _ _ h => h) (by rfl) ?_ hHeld ?_
    rotate_left
    · intro w' hSw
      go_simp <;> with_reducible rfl
    try simp only [Act.put, List.setIfInBounds_toArray, List.set_cons_zero, List.set_cons_succ]
    refine wpXt (v := ?_) 3 rfl (by kernel_rfl) (fun _ _ _ h => h) (by rfl) ?_ hHeld ?_
    rotate_left
    · intro w' hSw
      go_simp <;> with_reducible rfl
    try simp only [Act.put, List.setIfInBounds_toArray, List.set_cons_zero, List.set_cons_succ]
    refine wpXt (v := ?_) 4 rfl (by kernel_rfl) (fun _ _ _ h => h) (by rfl) ?_ hHeld ?_
    rotate_left
    · intro w' hSw
      go_simp <;> with_reducible rfl
    try simp only [Act.put, List.setIfInBounds_toArray, List.set_cons_zero, List.set_cons_succ]
    refine wpXt (v := ?_) 5 rfl (by kernel_rfl) (fun _ _ _ h => h) (by rfl) ?_ hHeld ?_
    rotate_left
    · intro w' hSw
      go_simp <;> with_reducible rfl
    try simp only [Act.put, List.setIfInBounds_toArray, List.set_cons_zero, List.set_cons_succ]
    refine wpXt (v := ?_) 6 rfl (by kernel_rfl) (fun _ _ _ h => h) (by rfl) ?_ hHeld ?_
    rotate_left
    · intro w' hSw
      go_simp <;> with_reducible rfl
    try simp only [Act.put, List.setIfInBounds_toArray, List.set_cons_zero, List.set_cons_succ]
    refine wpXt (v := .int .i64 rv) 7 rfl (by kernel_rfl) (fun _ _ _ h => h) (by rfl) ?_ hHeld ?_
    · intro w' hSw
      exact execO_lookup _ _ _ _ rfl rfl rfl hSw.2.2.2.2.2.2.2
    try simp only [Act.put, List.setIfInBounds_toArray, List.set_cons_zero, List.set_cons_succ]
    refine wpXt (v := ?_) 8 rfl (by kernel_rfl) (fun _ _ _ h => h) (by rfl) ?_ hHeld ?_
    rotate_left
    · intro w' hSw
      go_simp <;> with_reducible rfl
    try simp only [Act.put, List.setIfInBounds_toArray, List.set_cons_zero, List.set_cons_succ]
    refine wpXt (v := ?_) 9 rfl (by kernel_rfl) (fun _ _ _ h => h) (by rfl) ?_ hHeld ?_
    rotate_left
    · intro w' hSw
      go_simp <;> with_reducible rfl
    try simp only [Act.put, List.setIfInBounds_toArray, List.set_cons_zero, List.set_cons_succ]
    refine wpXt (v := ?_) 10 rfl (by kernel_rfl) (fun _ _ _ h => h) (by rfl) ?_ hHeld ?_
    rotate_left
    · intro w' hSw
      go_simp <;> with_reducible rfl
    try simp only [Act.put, List.setIfInBounds_toArray, List.set_cons_zero, List.set_cons_succ]
    refine wpAnyX_done (by kernel_rfl) ?_ _
    go_wp2
    go_ret
    exact ⟨ret_bool HH.out, HBW.out.trans ((hb2.drew).mono HBW.out.size)⟩
end Go.Proofs.Ytdlglinbjkaokab
