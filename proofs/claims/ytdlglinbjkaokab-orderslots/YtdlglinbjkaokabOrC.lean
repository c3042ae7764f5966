/-
  The contract of 'work.move': one move more is done, or two by way of a scratch.
-/
import Derived.Test.YtdlglinbjkaokabOrB
import Derived.Deep.DeepCutAuto
import Derived.Deep.CutBlock
namespace Go.Proofs.Ytdlglinbjkaokab
open Go.RowKit
set_option linter.unusedVariables false

/-- A part of a drawn region's text: 'Hid' keeps equations still. -/
abbrev WOV (X bc bl br B : Nat) (r0 r1 fr : Int) (nC : Nat) (fC : Pl → Option Value) (nL nR : Nat) (left : Pl → Option Pl) (rd : Pl → Int) (vd : Value) (done : List Mv) (w : World) : Prop := Hid (WoS X bc bl br B r0 r1 fr nC fC nL nR left rd vd done w)
set_option maxHeartbeats 8000000 in
theorem move_any {X bc bl br B : Nat} {r0 r1 fr : Int} {nC : Nat} {fC : Pl → Option Value} {nL nR : Nat} {left : Pl → Option Pl} {rd : Pl → Int} {vd : Value} {done : List Mv} {w : World} (k : WoS X bc bl br B r0 r1 fr nC fC nL nR left rd vd done w) (p g : Pl) (c : Int) (hc : c = 0 ∨ c = 1) (hlen : done.length ≤ 100000) :
    Calls Try.prog 20 #[.pointer (some ⟨X, 0, none⟩), .agg #[.int .i64 p.kind, .int .i64 p.cls, .int .i64 p.n], .agg #[.int .i64 g.kind, .int .i64 g.cls, .int .i64 g.n], .int .i64 c] w fun e w' => e = .returned (.tuple #[]) ∧ ∃ vd', WoS X bc bl br B r0 r1 fr nC fC nL nR left rd vd' (done ++ stepsOf (regsR r0 r1) c ⟨p, g⟩) w' ∧ Kq X bl br vd vd' w w' := by
  obtain ⟨av, cv, rfl⟩ := k.form
  obtain ⟨nd, hnd⟩ : ∃ nd, done.length = nd := ⟨_, rfl⟩
  obtain ⟨W, hW⟩ : ∃ W, W = (((w.alloc (.cells #[.int .i64 p.kind, .int .i64 p.cls, .int .i64 p.n] 26)).alloc (.cells #[.int .i64 g.kind, .int .i64 g.cls, .int .i64 g.n] 26)).alloc (.cells #[.int .i64 p.kind, .int .i64 p.cls, .int .i64 p.n, .int .i64 g.kind, .int .i64 g.cls, .int .i64 g.n] 29)) := ⟨_, rfl⟩
  have hbw : Below w.heap.size w W := by rw [hW]; exact (((Below.refl _ _).alloc (Nat.le_refl _) _).alloc (by simp) _).alloc (by simp; omega) _
  have zW : w.heap.size + 1 + 1 < W.heap.size := by rw [hW]; simp
  obtain ⟨t0, t1, t2⟩ := threeO w #[.int .i64 p.kind, .int .i64 p.cls, .int .i64 p.n] #[.int .i64 g.kind, .int .i64 g.cls, .int .i64 g.n] #[.int .i64 p.kind, .int .i64 p.cls, .int .i64 p.n, .int .i64 g.kind, .int .i64 g.cls, .int .i64 g.n] 26 26 29
  rw [← hW] at t0 t1 t2
  have a0 : W.cell? ⟨w.heap.size, 0, none⟩ = some (.int .i64 p.kind) := t0 0
  have a1 : W.cell? ⟨w.heap.size, 1, none⟩ = some (.int .i64 p.cls) := t0 1
  have a2 : W.cell? ⟨w.heap.size, 2, none⟩ = some (.int .i64 p.n) := t0 2
  have b0 : W.cell? ⟨w.heap.size + 1, 0, none⟩ = some (.int .i64 g.kind) := t1 0
  have b1 : W.cell? ⟨w.heap.size + 1, 1, none⟩ = some (.int .i64 g.cls) := t1 1
  have b2 : W.cell? ⟨w.heap.size + 1, 2, none⟩ = some (.int .i64 g.n) := t1 2
  have m0 : W.cell? ⟨w.heap.size + 1 + 1, 0, none⟩ = some (.int .i64 p.kind) := t2 0
  have m1 : W.cell? ⟨w.heap.size + 1 + 1, 1, none⟩ = some (.int .i64 p.cls) := t2 1
  have m2 : W.cell? ⟨w.heap.size + 1 + 1, 2, none⟩ = some (.int .i64 p.n) := t2 2
  have m3 : W.cell? ⟨w.heap.size + 1 + 1, 3, none⟩ = some (.int .i64 g.kind) := t2 3
  have m4 : W.cell? ⟨w.heap.size + 1 + 1, 4, none⟩ = some (.int .i64 g.cls) := t2 4
  have m5 : W.cell? ⟨w.heap.size + 1 + 1, 5, none⟩ = some (.int .i64 g.n) := t2 5
  have HW : Hid (W = (((w.alloc (.cells #[.int .i64 p.kind, .int .i64 p.cls, .int .i64 p.n] 26)).alloc (.cells #[.int .i64 g.kind, .int .i64 g.cls, .int .i64 g.n] 26)).alloc (.cells #[.int .i64 p.kind, .int .i64 p.cls, .int .i64 p.n, .int .i64 g.kind, .int .i64 g.cls, .int .i64 g.n] 29))) := hW
  clear hW t0 t1 t2
  have kW := k.below hbw
  have HC := isHop_any p.kind p.cls p.n g.kind g.cls g.n W
  obtain ⟨hb, hhb⟩ : ∃ hb, hopB ⟨p, g⟩ = hb := ⟨_, rfl⟩
  have hhb' : hopB ⟨⟨p.kind, p.cls, p.n⟩, ⟨g.kind, g.cls, g.n⟩⟩ = hb := hhb
  rw [hhb'] at HC
  have HHB : Hid (hopB ⟨p, g⟩ = hb) := hhb
  clear hhb hhb'
  rw [hnd]
  go_enter Try.func20, Try.ntmps20
  go_upto_region 2 with fail
  rw [← HW.out]
  clear HW
  --CUT1
  cases hb
  · go_upto_region 3 with (refine HC.mono ?_; clear HC; rintro e w1 ⟨rfl, hb1⟩)
    have k1 := kW.below hb1
    have lX1 := k1.bx.lt
    have x6 : w1.cell? ⟨X, 6, none⟩ = some (.slice av nd cv) := by rw [← hnd]; exact k1.bx.cell (i := 6) (by omega)
    have q0 := (hb1.cell (show w.heap.size + 1 + 1 < W.heap.size from zW)).trans m0
    have q1 := (hb1.cell (show w.heap.size + 1 + 1 < W.heap.size from zW)).trans m1
    have q2 := (hb1.cell (show w.heap.size + 1 + 1 < W.heap.size from zW)).trans m2
    have q3 := (hb1.cell (show w.heap.size + 1 + 1 < W.heap.size from zW)).trans m3
    have q4 := (hb1.cell (show w.heap.size + 1 + 1 < W.heap.size from zW)).trans m4
    have q5 := (hb1.cell (show w.heap.size + 1 + 1 < W.heap.size from zW)).trans m5
    have k1d := k1.below ((Below.refl w1.heap.size w1).drew)
    have hsz1 : W.heap.size ≤ w1.heap.size := hb1.size
    have ho1 := k1d.own
    rw [hnd] at ho1
    obtain ⟨gg, cap, w2, hr, ho2, hg2, hat⟩ := app_moves (w := w1.drew) ho1 k1d.lB [⟨p, g⟩] #[.int .i64 p.kind, .int .i64 p.cls, .int .i64 p.n, .int .i64 g.kind, .int .i64 g.cls, .int .i64 g.n] rfl 1 rfl (by omega) (by omega) 1 23
    have hwa : Below w.heap.size w (w1.drew.alloc (.cells #[.int .i64 p.kind, .int .i64 p.cls, .int .i64 p.n, .int .i64 g.kind, .int .i64 g.cls, .int .i64 g.n] 29)) := ((hbw.trans (hb1.mono hbw.size)).drew).alloc (Nat.le_trans hbw.size hsz1) _
    have hno : ∀ q, q < w1.heap.size → (Value.slice av nd cv).ownBlock ≠ some q → w2.heap[q]? = w1.heap[q]? := fun q hq hn => (hg2.block q (by simp; omega) (fun e => hn e.symm)).trans (((Below.refl w1.heap.size w1.drew).alloc (Nat.le_refl _) _).block q hq)
    have nZ : (Value.slice av nd cv).ownBlock ≠ some (w.heap.size + 1 + 1) := by rw [← hnd]; exact k.noff (by omega)
    have nX : (Value.slice av nd cv).ownBlock ≠ some X := by rw [← hnd]; exact k.nown k.l4
    have hS1 : (fun w' => w'.cell? ⟨X, 6, none⟩ = some (.slice av nd cv) ∧ w'.cell? ⟨w.heap.size + 1 + 1, 0, none⟩ = some (.int .i64 p.kind) ∧ w'.cell? ⟨w.heap.size + 1 + 1, 1, none⟩ = some (.int .i64 p.cls) ∧ w'.cell? ⟨w.heap.size + 1 + 1, 2, none⟩ = some (.int .i64 p.n) ∧ w'.cell? ⟨w.heap.size + 1 + 1, 3, none⟩ = some (.int .i64 g.kind) ∧ w'.cell? ⟨w.heap.size + 1 + 1, 4, none⟩ = some (.int .i64 g.cls) ∧ w'.cell? ⟨w.heap.size + 1 + 1, 5, none⟩ = some (.int .i64 g.n)) w1.drew := ⟨x6, q0, q1, q2, q3, q4, q5⟩
    have hS2 : (fun w' => w'.cell? ⟨X, 6, none⟩ = some (.slice av nd cv) ∧ w'.cell? ⟨w.heap.size + 1 + 1, 0, none⟩ = some (.int .i64 p.kind) ∧ w'.cell? ⟨w.heap.size + 1 + 1, 1, none⟩ = some (.int .i64 p.cls) ∧ w'.cell? ⟨w.heap.size + 1 + 1, 2, none⟩ = some (.int .i64 p.n) ∧ w'.cell? ⟨w.heap.size + 1 + 1, 3, none⟩ = some (.int .i64 g.kind) ∧ w'.cell? ⟨w.heap.size + 1 + 1, 4, none⟩ = some (.int .i64 g.cls) ∧ w'.cell? ⟨w.heap.size + 1 + 1, 5, none⟩ = some (.int .i64 g.n)) (w1.drew.alloc (.cells #[.int .i64 p.kind, .int .i64 p.cls, .int .i64 p.n, .int .i64 g.kind, .int .i64 g.cls, .int .i64 g.n] 29)) := by
      have hz : w.heap.size + 1 + 1 < w1.heap.size := by omega
      refine ⟨?_, ?_, ?_, ?_, ?_, ?_, ?_⟩ <;> refine (World.cell?_alloc_lt _ _ _ (by assumption)).trans ?_ <;> assumption
    have hS3 : (fun w' => w'.cell? ⟨X, 6, none⟩ = some (.slice av nd cv) ∧ w'.cell? ⟨w.heap.size + 1 + 1, 0, none⟩ = some (.int .i64 p.kind) ∧ w'.cell? ⟨w.heap.size + 1 + 1, 1, none⟩ = some (.int .i64 p.cls) ∧ w'.cell? ⟨w.heap.size + 1 + 1, 2, none⟩ = some (.int .i64 p.n) ∧ w'.cell? ⟨w.heap.size + 1 + 1, 3, none⟩ = some (.int .i64 g.kind) ∧ w'.cell? ⟨w.heap.size + 1 + 1, 4, none⟩ = some (.int .i64 g.cls) ∧ w'.cell? ⟨w.heap.size + 1 + 1, 5, none⟩ = some (.int .i64 g.n)) w2 := by
      have hz : w.heap.size + 1 + 1 < w1.heap.size := by omega
      exact ⟨(World.cell?_of_block (a := ⟨X, 6, none⟩) (hno X lX1 nX)).trans x6, (World.cell?_of_block (a := ⟨w.heap.size + 1 + 1, 0, none⟩) (hno _ hz nZ)).trans q0, (World.cell?_of_block (a := ⟨w.heap.size + 1 + 1, 1, none⟩) (hno _ hz nZ)).trans q1, (World.cell?_of_block (a := ⟨w.heap.size + 1 + 1, 2, none⟩) (hno _ hz nZ)).trans q2, (World.cell?_of_block (a := ⟨w.heap.size + 1 + 1, 3, none⟩) (hno _ hz nZ)).trans q3, (World.cell?_of_block (a := ⟨w.heap.size + 1 + 1, 4, none⟩) (hno _ hz nZ)).trans q4, (World.cell?_of_block (a := ⟨w.heap.size + 1 + 1, 5, none⟩) (hno _ hz nZ)).trans q5⟩
    have HS1 : Hid ((fun w' => w'.cell? ⟨X, 6, none⟩ = some (.slice av nd cv) ∧ w'.cell? ⟨w.heap.size + 1 + 1, 0, none⟩ = some (.int .i64 p.kind) ∧ w'.cell? ⟨w.heap.size + 1 + 1, 1, none⟩ = some (.int .i64 p.cls) ∧ w'.cell? ⟨w.heap.size + 1 + 1, 2, none⟩ = some (.int .i64 p.n) ∧ w'.cell? ⟨w.heap.size + 1 + 1, 3, none⟩ = some (.int .i64 g.kind) ∧ w'.cell? ⟨w.heap.size + 1 + 1, 4, none⟩ = some (.int .i64 g.cls) ∧ w'.cell? ⟨w.heap.size + 1 + 1, 5, none⟩ = some (.int .i64 g.n)) w1.drew) := hS1
    have HS2 : Hid ((fun w' => w'.cell? ⟨X, 6, none⟩ = some (.slice av nd cv) ∧ w'.cell? ⟨w.heap.size + 1 + 1, 0, none⟩ = some (.int .i64 p.kind) ∧ w'.cell? ⟨w.heap.size + 1 + 1, 1, none⟩ = some (.int .i64 p.cls) ∧ w'.cell? ⟨w.heap.size + 1 + 1, 2, none⟩ = some (.int .i64 p.n) ∧ w'.cell? ⟨w.heap.size + 1 + 1, 3, none⟩ = some (.int .i64 g.kind) ∧ w'.cell? ⟨w.heap.size + 1 + 1, 4, none⟩ = some (.int .i64 g.cls) ∧ w'.cell? ⟨w.heap.size + 1 + 1, 5, none⟩ = some (.int .i64 g.n)) (w1.drew.alloc (.cells #[.int .i64 p.kind, .int .i64 p.cls, .int .i64 p.n, .int .i64 g.kind, .int .i64 g.cls, .int .i64 g.n] 29))) := hS2
    have HS3 : Hid ((fun w' => w'.cell? ⟨X, 6, none⟩ = some (.slice av nd cv) ∧ w'.cell? ⟨w.heap.size + 1 + 1, 0, none⟩ = some (.int .i64 p.kind) ∧ w'.cell? ⟨w.heap.size + 1 + 1, 1, none⟩ = some (.int .i64 p.cls) ∧ w'.cell? ⟨w.heap.size + 1 + 1, 2, none⟩ = some (.int .i64 p.n) ∧ w'.cell? ⟨w.heap.size + 1 + 1, 3, none⟩ = some (.int .i64 g.kind) ∧ w'.cell? ⟨w.heap.size + 1 + 1, 4, none⟩ = some (.int .i64 g.cls) ∧ w'.cell? ⟨w.heap.size + 1 + 1, 5, none⟩ = some (.int .i64 g.n)) w2) := hS3
    have zf2 : w2.frozen? ⟨X, 6, none⟩ = false := ((k1.bx.of_block (hno X lX1 nX)).frozen 6)
    have z2 := k1d.below (Below.refl _ _)
    have HF : Hid (WoS X bc bl br B r0 r1 fr nC fC nL nR left rd (.slice (some ⟨gg, 0, none⟩) (nd + 1) cap) (done ++ stepsOf (regsR r0 r1) c ⟨p, g⟩) (w2.setCell ⟨X, 6, none⟩ (.slice (some ⟨gg, 0, none⟩) (nd + 1) cap)) ∧ Kq X bl br (.slice av nd cv) (.slice (some ⟨gg, 0, none⟩) (nd + 1) cap) w (w2.setCell ⟨X, 6, none⟩ (.slice (some ⟨gg, 0, none⟩) (nd + 1) cap))) := by
      have e : stepsOf (regsR r0 r1) c ⟨p, g⟩ = [⟨p, g⟩] := by unfold stepsOf; rw [HHB.out]; rfl
      rw [e]
      have := k.push (g := gg) (cap := cap) (l := [⟨p, g⟩]) (wa := w1.drew.alloc (.cells #[.int .i64 p.kind, .int .i64 p.cls, .int .i64 p.n, .int .i64 g.kind, .int .i64 g.cls, .int .i64 g.n] 29)) (w1 := w2) (m := 1) hwa (by rw [hnd]; exact hg2) rfl (by rw [hnd]; exact ho2) (by
        rw [hnd]
        rcases hat with h | h
        · exact Or.inl h
        · exact Or.inr (Nat.le_trans (Nat.le_trans hbw.size hsz1) h))
      rw [hnd] at this
      exact this
    clear ho1 hS1 hS2 hS3 hno hwa hat ho2 hg2 k1 k1d z2 kW x6 q0 q1 q2 q3 q4 q5 m0 m1 m2 m3 m4 m5 a0 a1 a2 b0 b1 b2
    --CUT2
    refine wp_region_X (fun w' => w'.cell? ⟨X, 6, none⟩ = some (.slice av nd cv) ∧ w'.cell? ⟨w.heap.size + 1 + 1, 0, none⟩ = some (.int .i64 p.kind) ∧ w'.cell? ⟨w.heap.size + 1 + 1, 1, none⟩ = some (.int .i64 p.cls) ∧ w'.cell? ⟨w.heap.size + 1 + 1, 2, none⟩ = some (.int .i64 p.n) ∧ w'.cell? ⟨w.heap.size + 1 + 1, 3, none⟩ = some (.int .i64 g.kind) ∧ w'.cell? ⟨w.heap.size + 1 + 1, 4, none⟩ = some (.int .i64 g.cls) ∧ w'.cell? ⟨w.heap.size + 1 + 1, 5, none⟩ = some (.int .i64 g.n)) 10 (by kernel_rfl) HS1.out (fun hHeld => ?_)
    refine wpXt (v := ?_) 0 rfl (by kernel_rfl) (fun _ _ _ h => h) (by rfl) ?_ hHeld ?_
    rotate_left
    · intro w' hSw
      go_simp <;> with_reducible rfl
    try simp only [Act.put, List.setIfInBounds_toArray, List.set_cons_zero, List.set_cons_succ]
    refine wpXt (v := ?_) 1 rfl (by kernel_rfl) (fun _ _ _ h => h) (by rfl) ?_ hHeld ?_
    rotate_left
    · intro w' hSw
      go_simp <;> with_reducible rfl
    try simp only [Act.put, List.setIfInBounds_toArray, List.set_cons_zero, List.set_cons_succ]
    refine wpXt (v := ?_) 2 rfl (by kernel_rfl) (fun _ _ _ h => h) (by rfl) ?_ hHeld ?_
    rotate_left
    · intro w' hSw
      go_simp <;> with_reducible rfl
    try simp only [Act.put, List.setIfInBounds_toArray, List.set_cons_zero, List.set_cons_succ]
    refine wpXt (v := ?_) 3 rfl (by kernel_rfl) (fun _ _ _ h => h) (by rfl) ?_ hHeld ?_
    rotate_left
    · intro w' hSw
      go_simp <;> with_reducible rfl
    try simp only [Act.put, List.setIfInBounds_toArray, List.set_cons_zero, List.set_cons_succ]
    refine wpXt (v := ?_) 4 rfl (by kernel_rfl) (fun _ _ _ h => h) (by rfl) ?_ hHeld ?_
    rotate_left
    · intro w' hSw
      go_simp <;> with_reducible rfl
    try simp only [Act.put, List.setIfInBounds_toArray, List.set_cons_zero, List.set_cons_succ]
    refine wpXt (v := ?_) 5 rfl (by kernel_rfl) (fun _ _ _ h => h) (by rfl) ?_ hHeld ?_
    rotate_left
    · intro w' hSw
      go_simp <;> with_reducible rfl
    try simp only [Act.put, List.setIfInBounds_toArray, List.set_cons_zero, List.set_cons_succ]
    --CUT3
    refine wpXs 6 rfl (by kernel_rfl) (fun K hK => ?_)
    go_simp
    refine hK.out _ _ HS2.out (fun hHeld => ?_)
    clear hK K
    try simp only [Act.put, List.setIfInBounds_toArray, List.set_cons_zero, List.set_cons_succ]
    --CUT4
    refine wpXs 7 rfl (by kernel_rfl) (fun K hK => ?_)
    rw [if_pos (by rfl)]
    refine wpO_append _ _ _ rfl rfl rfl hr ?_
    refine hK.out _ _ HS3.out (fun hHeld => ?_)
    clear hK K
    try simp only [Act.put, List.setIfInBounds_toArray, List.set_cons_zero, List.set_cons_succ]
    --CUT5
    refine wpXs 8 rfl (by kernel_rfl) (fun K hK => ?_)
    go_simp
    refine hK.out _ _ hHeld (fun hHeld => ?_)
    clear hK K
    try simp only [Act.put, List.setIfInBounds_toArray, List.set_cons_zero, List.set_cons_succ]
    refine wpXt (v := ?_) 9 rfl (by kernel_rfl) (fun _ _ _ h => h) (by rfl) ?_ hHeld ?_
    rotate_left
    · intro w' hSw
      go_simp <;> with_reducible rfl
    try simp only [Act.put, List.setIfInBounds_toArray, List.set_cons_zero, List.set_cons_succ]
    --CUT6
    refine wpXl 10 rfl (by kernel_rfl) rfl (by kernel_rfl) (fun K hK => ?_)
    go_simp
    refine hK.out _ _ ?_
    clear hK K
    go_wp2
    --CUT9
    first | go_end0 | refine bodyPost_ret (results_none rfl _ _ _) rfl ?_
    exact ⟨rfl, _, HF.out⟩
  · go_upto_region 4 with (refine HC.mono ?_; clear HC; rintro e w1 ⟨rfl, hb1⟩)
    have k1 := kW.below hb1
    have x0 : w1.cell? ⟨X, 0, none⟩ = some (.int .i64 r0) := k1.bx.cell (i := 0) (by omega)
    have x1 : w1.cell? ⟨X, 1, none⟩ = some (.int .i64 r1) := k1.bx.cell (i := 1) (by omega)
    have HSC := scratch_any c r0 r1 hc w1
    have hsz1 : W.heap.size ≤ w1.heap.size := hb1.size
    go_wp2_with fail
    refine HSC.mono ?_
    clear HSC
    rintro e w2 ⟨rfl, hb2⟩
    --CUTa
    obtain ⟨Z, hZ⟩ : ∃ Z, w2.heap.size = Z := ⟨_, rfl⟩
    obtain ⟨w3, hw3⟩ : ∃ w3, w3 = w2.alloc (.cells #[.int .i64 1, .int .i64 c, .int .i64 (regsR r0 r1 c)] 26) := ⟨_, rfl⟩
    have hb3 : Below w2.heap.size w2 w3 := by rw [hw3]; exact (Below.refl _ _).alloc (Nat.le_refl _) _
    have tz := topO w2 #[.int .i64 1, .int .i64 c, .int .i64 (regsR r0 r1 c)] 26
    rw [← hw3, hZ] at tz
    have s0 : w3.cell? ⟨Z, 0, none⟩ = some (.int .i64 1) := tz 0
    have s1 : w3.cell? ⟨Z, 1, none⟩ = some (.int .i64 c) := tz 1
    have s2 : w3.cell? ⟨Z, 2, none⟩ = some (.int .i64 (regsR r0 r1 c)) := tz 2
    have zZ : Z < w3.heap.size := by rw [hw3, ← hZ]; simp
    clear tz
    have hz2 := hb2.size
    have hz3 := hb3.size
    have hall : Below W.heap.size W w3 := hb1.trans ((hb2.trans (hb3.mono hb2.size)).mono hb1.size)
    have k3 := kW.below hall
    have lX3 := k3.bx.lt
    have x6 : w3.cell? ⟨X, 6, none⟩ = some (.slice av nd cv) := by rw [← hnd]; exact k3.bx.cell (i := 6) (by omega)
    have a0' := (hall.cell (show w.heap.size < W.heap.size by omega)).trans a0
    have a1' := (hall.cell (show w.heap.size < W.heap.size by omega)).trans a1
    have a2' := (hall.cell (show w.heap.size < W.heap.size by omega)).trans a2
    have b0' := (hall.cell (show w.heap.size + 1 < W.heap.size by omega)).trans b0
    have b1' := (hall.cell (show w.heap.size + 1 < W.heap.size by omega)).trans b1
    have b2' := (hall.cell (show w.heap.size + 1 < W.heap.size by omega)).trans b2
    have k3d := k3.below ((Below.refl w3.heap.size w3).drew)
    have ho1 := k3d.own
    rw [hnd] at ho1
    obtain ⟨gg, cap, w4, hr, ho2, hg2, hat⟩ := app_moves (w := w3.drew) ho1 k3d.lB [⟨p, scrP (regsR r0 r1) c⟩, ⟨scrP (regsR r0 r1) c, g⟩] #[.int .i64 p.kind, .int .i64 p.cls, .int .i64 p.n, .int .i64 1, .int .i64 c, .int .i64 (regsR r0 r1 c), .int .i64 1, .int .i64 c, .int .i64 (regsR r0 r1 c), .int .i64 g.kind, .int .i64 g.cls, .int .i64 g.n] rfl 2 rfl (by omega) (by omega) 2 23
    have hwa : Below w.heap.size w (w3.drew.alloc (.cells #[.int .i64 p.kind, .int .i64 p.cls, .int .i64 p.n, .int .i64 1, .int .i64 c, .int .i64 (regsR r0 r1 c), .int .i64 1, .int .i64 c, .int .i64 (regsR r0 r1 c), .int .i64 g.kind, .int .i64 g.cls, .int .i64 g.n] 29)) := ((hbw.trans (hall.mono hbw.size)).drew).alloc (Nat.le_trans hbw.size hall.size) _
    have hno : ∀ q, q < w3.heap.size → (Value.slice av nd cv).ownBlock ≠ some q → w4.heap[q]? = w3.heap[q]? := fun q hq hn => (hg2.block q (by simp; omega) (fun e => hn e.symm)).trans (((Below.refl w3.heap.size w3.drew).alloc (Nat.le_refl _) _).block q hq)
    have nA : ∀ q, w.heap.size ≤ q → (Value.slice av nd cv).ownBlock ≠ some q := fun q hq => by rw [← hnd]; exact k.noff hq
    have nX : (Value.slice av nd cv).ownBlock ≠ some X := by rw [← hnd]; exact k.nown k.l4
    have hlt : ∀ q, q < w.heap.size + 1 + 1 → q < w3.heap.size := fun q hq => by omega
    have hS1 : (fun w' => w'.cell? ⟨X, 6, none⟩ = some (.slice av nd cv) ∧ w'.cell? ⟨w.heap.size, 0, none⟩ = some (.int .i64 p.kind) ∧ w'.cell? ⟨w.heap.size, 1, none⟩ = some (.int .i64 p.cls) ∧ w'.cell? ⟨w.heap.size, 2, none⟩ = some (.int .i64 p.n) ∧ w'.cell? ⟨w.heap.size + 1, 0, none⟩ = some (.int .i64 g.kind) ∧ w'.cell? ⟨w.heap.size + 1, 1, none⟩ = some (.int .i64 g.cls) ∧ w'.cell? ⟨w.heap.size + 1, 2, none⟩ = some (.int .i64 g.n) ∧ w'.cell? ⟨Z, 0, none⟩ = some (.int .i64 1) ∧ w'.cell? ⟨Z, 1, none⟩ = some (.int .i64 c) ∧ w'.cell? ⟨Z, 2, none⟩ = some (.int .i64 (regsR r0 r1 c))) w3.drew := ⟨x6, a0', a1', a2', b0', b1', b2', s0, s1, s2⟩
    have hS2 : (fun w' => w'.cell? ⟨X, 6, none⟩ = some (.slice av nd cv) ∧ w'.cell? ⟨w.heap.size, 0, none⟩ = some (.int .i64 p.kind) ∧ w'.cell? ⟨w.heap.size, 1, none⟩ = some (.int .i64 p.cls) ∧ w'.cell? ⟨w.heap.size, 2, none⟩ = some (.int .i64 p.n) ∧ w'.cell? ⟨w.heap.size + 1, 0, none⟩ = some (.int .i64 g.kind) ∧ w'.cell? ⟨w.heap.size + 1, 1, none⟩ = some (.int .i64 g.cls) ∧ w'.cell? ⟨w.heap.size + 1, 2, none⟩ = some (.int .i64 g.n) ∧ w'.cell? ⟨Z, 0, none⟩ = some (.int .i64 1) ∧ w'.cell? ⟨Z, 1, none⟩ = some (.int .i64 c) ∧ w'.cell? ⟨Z, 2, none⟩ = some (.int .i64 (regsR r0 r1 c))) (w3.drew.alloc (.cells #[.int .i64 p.kind, .int .i64 p.cls, .int .i64 p.n, .int .i64 1, .int .i64 c, .int .i64 (regsR r0 r1 c), .int .i64 1, .int .i64 c, .int .i64 (regsR r0 r1 c), .int .i64 g.kind, .int .i64 g.cls, .int .i64 g.n] 29)) := by
      have hz0 : w.heap.size < w3.heap.size := by omega
      have hz1 : w.heap.size + 1 < w3.heap.size := by omega
      refine ⟨?_, ?_, ?_, ?_, ?_, ?_, ?_, ?_, ?_, ?_⟩ <;> refine (World.cell?_alloc_lt _ _ _ (by assumption)).trans ?_ <;> assumption
    have hS3 : (fun w' => w'.cell? ⟨X, 6, none⟩ = some (.slice av nd cv) ∧ w'.cell? ⟨w.heap.size, 0, none⟩ = some (.int .i64 p.kind) ∧ w'.cell? ⟨w.heap.size, 1, none⟩ = some (.int .i64 p.cls) ∧ w'.cell? ⟨w.heap.size, 2, none⟩ = some (.int .i64 p.n) ∧ w'.cell? ⟨w.heap.size + 1, 0, none⟩ = some (.int .i64 g.kind) ∧ w'.cell? ⟨w.heap.size + 1, 1, none⟩ = some (.int .i64 g.cls) ∧ w'.cell? ⟨w.heap.size + 1, 2, none⟩ = some (.int .i64 g.n) ∧ w'.cell? ⟨Z, 0, none⟩ = some (.int .i64 1) ∧ w'.cell? ⟨Z, 1, none⟩ = some (.int .i64 c) ∧ w'.cell? ⟨Z, 2, none⟩ = some (.int .i64 (regsR r0 r1 c))) w4 := by
      have hz0 : w.heap.size < w3.heap.size := by omega
      have hz1 : w.heap.size + 1 < w3.heap.size := by omega
      have n0 := nA w.heap.size (Nat.le_refl _)
      have n1 := nA (w.heap.size + 1) (by omega)
      have n2 := nA Z (by omega)
      refine ⟨?_, ?_, ?_, ?_, ?_, ?_, ?_, ?_, ?_, ?_⟩ <;> refine (World.cell?_of_block (hno _ (by assumption) (by assumption))).trans ?_ <;> assumption
    have HS1 : Hid ((fun w' => w'.cell? ⟨X, 6, none⟩ = some (.slice av nd cv) ∧ w'.cell? ⟨w.heap.size, 0, none⟩ = some (.int .i64 p.kind) ∧ w'.cell? ⟨w.heap.size, 1, none⟩ = some (.int .i64 p.cls) ∧ w'.cell? ⟨w.heap.size, 2, none⟩ = some (.int .i64 p.n) ∧ w'.cell? ⟨w.heap.size + 1, 0, none⟩ = some (.int .i64 g.kind) ∧ w'.cell? ⟨w.heap.size + 1, 1, none⟩ = some (.int .i64 g.cls) ∧ w'.cell? ⟨w.heap.size + 1, 2, none⟩ = some (.int .i64 g.n) ∧ w'.cell? ⟨Z, 0, none⟩ = some (.int .i64 1) ∧ w'.cell? ⟨Z, 1, none⟩ = some (.int .i64 c) ∧ w'.cell? ⟨Z, 2, none⟩ = some (.int .i64 (regsR r0 r1 c))) w3.drew) := hS1
    have HS2 : Hid ((fun w' => w'.cell? ⟨X, 6, none⟩ = some (.slice av nd cv) ∧ w'.cell? ⟨w.heap.size, 0, none⟩ = some (.int .i64 p.kind) ∧ w'.cell? ⟨w.heap.size, 1, none⟩ = some (.int .i64 p.cls) ∧ w'.cell? ⟨w.heap.size, 2, none⟩ = some (.int .i64 p.n) ∧ w'.cell? ⟨w.heap.size + 1, 0, none⟩ = some (.int .i64 g.kind) ∧ w'.cell? ⟨w.heap.size + 1, 1, none⟩ = some (.int .i64 g.cls) ∧ w'.cell? ⟨w.heap.size + 1, 2, none⟩ = some (.int .i64 g.n) ∧ w'.cell? ⟨Z, 0, none⟩ = some (.int .i64 1) ∧ w'.cell? ⟨Z, 1, none⟩ = some (.int .i64 c) ∧ w'.cell? ⟨Z, 2, none⟩ = some (.int .i64 (regsR r0 r1 c))) (w3.drew.alloc (.cells #[.int .i64 p.kind, .int .i64 p.cls, .int .i64 p.n, .int .i64 1, .int .i64 c, .int .i64 (regsR r0 r1 c), .int .i64 1, .int .i64 c, .int .i64 (regsR r0 r1 c), .int .i64 g.kind, .int .i64 g.cls, .int .i64 g.n] 29))) := hS2
    have HS3 : Hid ((fun w' => w'.cell? ⟨X, 6, none⟩ = some (.slice av nd cv) ∧ w'.cell? ⟨w.heap.size, 0, none⟩ = some (.int .i64 p.kind) ∧ w'.cell? ⟨w.heap.size, 1, none⟩ = some (.int .i64 p.cls) ∧ w'.cell? ⟨w.heap.size, 2, none⟩ = some (.int .i64 p.n) ∧ w'.cell? ⟨w.heap.size + 1, 0, none⟩ = some (.int .i64 g.kind) ∧ w'.cell? ⟨w.heap.size + 1, 1, none⟩ = some (.int .i64 g.cls) ∧ w'.cell? ⟨w.heap.size + 1, 2, none⟩ = some (.int .i64 g.n) ∧ w'.cell? ⟨Z, 0, none⟩ = some (.int .i64 1) ∧ w'.cell? ⟨Z, 1, none⟩ = some (.int .i64 c) ∧ w'.cell? ⟨Z, 2, none⟩ = some (.int .i64 (regsR r0 r1 c))) w4) := hS3
    have zf2 : w4.frozen? ⟨X, 6, none⟩ = false := ((k3.bx.of_block (hno X lX3 nX)).frozen 6)
    have HF : Hid (WoS X bc bl br B r0 r1 fr nC fC nL nR left rd (.slice (some ⟨gg, 0, none⟩) (nd + 2) cap) (done ++ stepsOf (regsR r0 r1) c ⟨p, g⟩) (w4.setCell ⟨X, 6, none⟩ (.slice (some ⟨gg, 0, none⟩) (nd + 2) cap)) ∧ Kq X bl br (.slice av nd cv) (.slice (some ⟨gg, 0, none⟩) (nd + 2) cap) w (w4.setCell ⟨X, 6, none⟩ (.slice (some ⟨gg, 0, none⟩) (nd + 2) cap))) := by
      have e : stepsOf (regsR r0 r1) c ⟨p, g⟩ = [⟨p, scrP (regsR r0 r1) c⟩, ⟨scrP (regsR r0 r1) c, g⟩] := by unfold stepsOf; rw [HHB.out]; rfl
      rw [e]
      have := k.push (g := gg) (cap := cap) (l := [⟨p, scrP (regsR r0 r1) c⟩, ⟨scrP (regsR r0 r1) c, g⟩]) (wa := (w3.drew.alloc (.cells #[.int .i64 p.kind, .int .i64 p.cls, .int .i64 p.n, .int .i64 1, .int .i64 c, .int .i64 (regsR r0 r1 c), .int .i64 1, .int .i64 c, .int .i64 (regsR r0 r1 c), .int .i64 g.kind, .int .i64 g.cls, .int .i64 g.n] 29))) (w1 := w4) (m := 2) hwa (by rw [hnd]; exact hg2) rfl (by rw [hnd]; exact ho2) (by
        rw [hnd]
        rcases hat with h | h
        · exact Or.inl h
        · exact Or.inr (Nat.le_trans (Nat.le_trans hbw.size hall.size) h))
      rw [hnd] at this
      exact this
    have HZZ : Hid (w2.heap.size = Z) := hZ
    have HW3 : Hid (w3 = w2.alloc (.cells #[.int .i64 1, .int .i64 c, .int .i64 (regsR r0 r1 c)] 26)) := hw3
    clear hZ hw3 ho1 hS1 hS2 hS3 hno hwa hat ho2 hg2 k1 k3 k3d kW x6 x0 x1 a0' a1' a2' b0' b1' b2' s0 s1 s2 m0 m1 m2 m3 m4 m5 a0 a1 a2 b0 b1 b2
    go_upto_region 5 with fail
    rw [← HW3.out, HZZ.out]
    --CUTb
    refine wp_region_X (fun w' => w'.cell? ⟨X, 6, none⟩ = some (.slice av nd cv) ∧ w'.cell? ⟨w.heap.size, 0, none⟩ = some (.int .i64 p.kind) ∧ w'.cell? ⟨w.heap.size, 1, none⟩ = some (.int .i64 p.cls) ∧ w'.cell? ⟨w.heap.size, 2, none⟩ = some (.int .i64 p.n) ∧ w'.cell? ⟨w.heap.size + 1, 0, none⟩ = some (.int .i64 g.kind) ∧ w'.cell? ⟨w.heap.size + 1, 1, none⟩ = some (.int .i64 g.cls) ∧ w'.cell? ⟨w.heap.size + 1, 2, none⟩ = some (.int .i64 g.n) ∧ w'.cell? ⟨Z, 0, none⟩ = some (.int .i64 1) ∧ w'.cell? ⟨Z, 1, none⟩ = some (.int .i64 c) ∧ w'.cell? ⟨Z, 2, none⟩ = some (.int .i64 (regsR r0 r1 c))) 15 (by kernel_rfl) HS1.out (fun hHeld => ?_)
    refine wpXt (v := ?_) 0 rfl (by kernel_rfl) (fun _ _ _ h => h) (by rfl) ?_ hHeld ?_
    rotate_left
    · intro w' hSw
      go_simp <;> with_reducible rfl
    try simp only [Act.put, List.setIfInBounds_toArray, List.set_cons_zero, List.set_cons_succ]
    refine wpXt (v := ?_) 1 rfl (by kernel_rfl) (fun _ _ _ h => h) (by rfl) ?_ hHeld ?_
    rotate_left
    · intro w' hSw
      go_simp <;> with_reducible rfl
    try simp only [Act.put, List.setIfInBounds_toArray, List.set_cons_zero, List.set_cons_succ]
    refine wpXt (v := ?_) 2 rfl (by kernel_rfl) (fun _ _ _ h => h) (by rfl) ?_ hHeld ?_
    rotate_left
    · intro w' hSw
      go_simp <;> with_reducible rfl
    try simp only [Act.put, List.setIfInBounds_toArray, List.set_cons_zero, List.set_cons_succ]
    refine wpXt (v := ?_) 3 rfl (by kernel_rfl) (fun _ _ _ h => h) (by rfl) ?_ hHeld ?_
    rotate_left
    · intro w' hSw
      go_simp <;> with_reducible rfl
    try simp only [Act.put, List.setIfInBounds_toArray, List.set_cons_zero, List.set_cons_succ]
    refine wpXt (v := ?_) 4 rfl (by kernel_rfl) (fun _ _ _ h => h) (by rfl) ?_ hHeld ?_
    rotate_left
    · intro w' hSw
      go_simp <;> with_reducible rfl
    try simp only [Act.put, List.setIfInBounds_toArray, List.set_cons_zero, List.set_cons_succ]
    refine wpXt (v := ?_) 5 rfl (by kernel_rfl) (fun _ _ _ h => h) (by rfl) ?_ hHeld ?_
    rotate_left
    · intro w' hSw
      go_simp <;> with_reducible rfl
    try simp only [Act.put, List.setIfInBounds_toArray, List.set_cons_zero, List.set_cons_succ]
    refine wpXt (v := ?_) 6 rfl (by kernel_rfl) (fun _ _ _ h => h) (by rfl) ?_ hHeld ?_
    rotate_left
    · intro w' hSw
      go_simp <;> with_reducible rfl
    try simp only [Act.put, List.setIfInBounds_toArray, List.set_cons_zero, List.set_cons_succ]
    refine wpXt (v := ?_) 7 rfl (by kernel_rfl) (fun _ _ _ h => h) (by rfl) ?_ hHeld ?_
    rotate_left
    · intro w' hSw
      go_simp <;> with_reducible rfl
    try simp only [Act.put, List.setIfInBounds_toArray, List.set_cons_zero, List.set_cons_succ]
    refine wpXt (v := ?_) 8 rfl (by kernel_rfl) (fun _ _ _ h => h) (by rfl) ?_ hHeld ?_
    rotate_left
    · intro w' hSw
      go_simp <;> with_reducible rfl
    try simp only [Act.put, List.setIfInBounds_toArray, List.set_cons_zero, List.set_cons_succ]
    refine wpXt (v := ?_) 9 rfl (by kernel_rfl) (fun _ _ _ h => h) (by rfl) ?_ hHeld ?_
    rotate_left
    · intro w' hSw
      go_simp <;> with_reducible rfl
    try simp only [Act.put, List.setIfInBounds_toArray, List.set_cons_zero, List.set_cons_succ]
    refine wpXt (v := ?_) 10 rfl (by kernel_rfl) (fun _ _ _ h => h) (by rfl) ?_ hHeld ?_
    rotate_left
    · intro w' hSw
      go_simp <;> with_reducible rfl
    try simp only [Act.put, List.setIfInBounds_toArray, List.set_cons_zero, List.set_cons_succ]
    refine wpXs 11 rfl (by kernel_rfl) (fun K hK => ?_)
    go_simp
    refine hK.out _ _ HS2.out (fun hHeld => ?_)
    clear hK K
    try simp only [Act.put, List.setIfInBounds_toArray, List.set_cons_zero, List.set_cons_succ]
    refine wpXs 12 rfl (by kernel_rfl) (fun K hK => ?_)
    rw [if_pos (by rfl)]
    refine wpO_append _ _ _ rfl rfl rfl hr ?_
    refine hK.out _ _ HS3.out (fun hHeld => ?_)
    clear hK K
    try simp only [Act.put, List.setIfInBounds_toArray, List.set_cons_zero, List.set_cons_succ]
    refine wpXs 13 rfl (by kernel_rfl) (fun K hK => ?_)
    go_simp
    refine hK.out _ _ hHeld (fun hHeld => ?_)
    clear hK K
    try simp only [Act.put, List.setIfInBounds_toArray, List.set_cons_zero, List.set_cons_succ]
    refine wpXt (v := ?_) 14 rfl (by kernel_rfl) (fun _ _ _ h => h) (by rfl) ?_ hHeld ?_
    rotate_left
    · intro w' hSw
      go_simp <;> with_reducible rfl
    try simp only [Act.put, List.setIfInBounds_toArray, List.set_cons_zero, List.set_cons_succ]
    refine wpXl 15 rfl (by kernel_rfl) rfl (by kernel_rfl) (fun K hK => ?_)
    go_simp
    refine hK.out _ _ ?_
    clear hK K
    go_wp2
    first | go_end0 | refine bodyPost_ret (results_none rfl _ _ _) rfl ?_
    exact ⟨rfl, _, HF.out⟩
end Go.Proofs.Ytdlglinbjkaokab
