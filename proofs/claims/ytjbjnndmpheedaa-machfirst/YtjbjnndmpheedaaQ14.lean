/-
  The contract of mach's 'Run': what an output does, as events, for so many steps.
-/
import Derived.Test.YtjbjnndmpheedaaQ13
namespace Go.Proofs.Ytjbjnndmpheedaa
open Go.RowKit
set_option linter.unusedVariables false

theorem exec_buildM {P : Program} {o : Oper} {ev : Operand → Value} {w : World} (t : TypeId) (parts : Array (Nat × Operand)) (ho : o.op = .build t parts) (cells : Array Value) (hc : P.built t (parts.map fun (i, x) => (i, ev x)).toList = some cells) : (execOp ev o).run P w = .ok (.value (.agg cells)) w := by
  unfold execOp
  simp only [ho, Sem.run_bind, run_build w t _ cells hc, Result.andThen_ok]
  rfl
def hM (vv vb vp : Value) (M G fr nb nj cj : Nat) (aj : Option Addr) (seed : Int) : Nat → Value := fun q =>
  if q = 0 then vv else if q = 1 then vb else if q = 2 then vp else if q = 3 then .slice (some ⟨M + 1, 0, none⟩) nb nb else if q = 4 then .int .i64 seed else if q = 28 then .slice (some ⟨G, 0, none⟩) fr fr else .slice aj nj cj
/-- A walk that begins. -/
def BegM (w1 : World) (vv vb vp : Value) (fr nb nj cj : Nat) (aj : Option Addr) (bs : List Blk) (eds : List Ed) (jl : List Int) (seed : Int) (steps : Nat) (s0 : Pm) (x : Value) (V : World) : Prop :=
  ∃ X G M v, x = .pointer (some ⟨X, 0, none⟩) ∧ MwS w1 X G fr (hM vv vb vp M G fr nb nj cj aj seed) s0 (steps : Int) (.slice none 0 0) V ∧ MvQ w1 X G V.heap.size M nb (lnB bs) v (mvAt eds) V ∧ NxOk jl s0
theorem begM_low {w1 V : World} {vv vb vp x : Value} {fr nb nj cj : Nat} {aj : Option Addr} {bs : List Blk} {eds : List Ed} {jl : List Int} {seed : Int} {steps : Nat} {s0 : Pm} (h : BegM w1 vv vb vp fr nb nj cj aj bs eds jl seed steps s0 x V) : Below w1.heap.size w1 V := by
  obtain ⟨_, _, _, _, _, h, _⟩ := h
  exact h.low
theorem beg_setM {w1 wz V : World} {X G0 M fr nb nj cj nv cv cb np cp steps : Nat} {av ab ap aj : Option Addr} {bs : List Blk} {eds : List Ed} {jl : List Int} {seed : Int} {s0 : Pm} {v : Nat → Nat → Value} {zero : Array Value} (hXa : wz.heap[X]? = some (.cells zero 88 (0, 0))) (hb : Below w1.heap.size w1 wz)
    (hmt : MvQ w1 X (G0 + 2) wz.heap.size M nb (lnB bs) v (mvAt eds) wz) (hsl : wz.rowIs (G0 + 2) 3 fr (fun i => .int .i64 (s0.sl i))) (hnx : NxOk jl s0) (lX : w1.heap.size ≤ X) (lG : w1.heap.size ≤ G0 + 2) (hXG : X ≠ G0 + 2)
    (hV : wz.setRow X #[.slice av nv cv, .slice ab nb cb, .slice ap np cp, .slice (some ⟨M + 1, 0, none⟩) nb nb, .int .i64 seed, .int .i64 (steps : Int), .int .i64 (s0.reg 0), .int .i64 (s0.reg 1), .int .i64 (s0.reg 2), .int .i64 (s0.reg 3), .int .i64 (s0.reg 4), .int .i64 (s0.reg 5), .int .i64 (s0.reg 6), .int .i64 (s0.reg 7), .int .i64 (s0.reg 8), .int .i64 (s0.reg 9), .int .i64 (s0.reg 10), .int .i64 (s0.reg 11), .int .i64 (s0.reg 12), .int .i64 (s0.reg 13), .int .i64 (s0.reg 14), .int .i64 (s0.reg 15), .int .i64 (s0.reg 16), .int .i64 (s0.reg 17), .int .i64 (s0.reg 18), .int .i64 (s0.reg 19), .int .i64 (s0.reg 20), .int .i64 (s0.reg 21), .slice (some ⟨G0 + 2, 0, none⟩) fr fr, .slice aj nj cj, .int .i64 (s0.nx : Int), .slice none 0 0] = V) : BegM w1 (.slice av nv cv) (.slice ab nb cb) (.slice ap np cp) fr nb nj cj aj bs eds jl seed steps s0 (.pointer (some ⟨X, 0, none⟩)) V := by
  have hsz : V.heap.size = wz.heap.size := by rw [← hV, setRow_size]
  have hoth : ∀ q, q ≠ X → V.heap[q]? = wz.heap[q]? := fun q hq => by rw [← hV]; exact setRow_other _ _ _ _ hq
  have hX1 : V.heap[X]? = some (.cells #[.slice av nv cv, .slice ab nb cb, .slice ap np cp, .slice (some ⟨M + 1, 0, none⟩) nb nb, .int .i64 seed, .int .i64 (steps : Int), .int .i64 (s0.reg 0), .int .i64 (s0.reg 1), .int .i64 (s0.reg 2), .int .i64 (s0.reg 3), .int .i64 (s0.reg 4), .int .i64 (s0.reg 5), .int .i64 (s0.reg 6), .int .i64 (s0.reg 7), .int .i64 (s0.reg 8), .int .i64 (s0.reg 9), .int .i64 (s0.reg 10), .int .i64 (s0.reg 11), .int .i64 (s0.reg 12), .int .i64 (s0.reg 13), .int .i64 (s0.reg 14), .int .i64 (s0.reg 15), .int .i64 (s0.reg 16), .int .i64 (s0.reg 17), .int .i64 (s0.reg 18), .int .i64 (s0.reg 19), .int .i64 (s0.reg 20), .int .i64 (s0.reg 21), .slice (some ⟨G0 + 2, 0, none⟩) fr fr, .slice aj nj cj, .int .i64 (s0.nx : Int), .slice none 0 0] 88 (0, 0)) := by rw [← hV]; exact setRow_heap _ _ _ _ _ _ hXa
  refine ⟨X, G0 + 2, M, v, rfl, ⟨⟨_, hX1, rfl, fun i hi => ?_⟩, hsl.of_block (hoth _ (Ne.symm hXG)), rfl, ?_, lX, lG, hXG⟩, ?_, hnx⟩
  · match i, hi with | 0, _ => rfl | 1, _ => rfl | 2, _ => rfl | 3, _ => rfl | 4, _ => rfl | 5, _ => rfl | 6, _ => rfl | 7, _ => rfl | 8, _ => rfl | 9, _ => rfl | 10, _ => rfl | 11, _ => rfl | 12, _ => rfl | 13, _ => rfl | 14, _ => rfl | 15, _ => rfl | 16, _ => rfl | 17, _ => rfl | 18, _ => rfl | 19, _ => rfl | 20, _ => rfl | 21, _ => rfl | 22, _ => rfl | 23, _ => rfl | 24, _ => rfl | 25, _ => rfl | 26, _ => rfl | 27, _ => rfl | 28, _ => rfl | 29, _ => rfl | 30, _ => rfl | 31, _ => rfl | n + 32, h => exact absurd h (by omega)
  · exact ⟨by rw [← hV]; exact hb.os, by rw [← hV]; exact hb.tape, by rw [← hV]; exact hb.output, by rw [hsz]; exact hb.size, fun q hq => (hoth q (by omega)).trans (hb.block q hq)⟩
  · rw [hsz]
    exact hmt.blocks fun q h1 h2 h3 => hoth q h2
theorem mvq_of {w1 w0 wz : World} {X G M nb : Nat} {ln : Nat → Nat} {v : Nat → Nat → Value} {g : Nat → Nat → List Mv} {wn : World} (h : MvT w1 w0 M nb ln v g wn) (hn : 0 < nb) (hk : ∀ q, q < wn.heap.size → wz.heap[q]? = wn.heap[q]?) (hs : wn.heap.size ≤ wz.heap.size) (hX : X < M ∨ wn.heap.size ≤ X) (hG : G < M ∨ wn.heap.size ≤ G) : MvQ w1 X G wz.heap.size M nb ln v g wz := by
  have sz : M + 2 + 2 * nb ≤ wn.heap.size := by
    have h1 := (h.rows (nb - 1) (by omega)).lt
    omega
  exact ⟨h.row.of_block (hk _ (by omega)), fun b hb => (h.rows b hb).of_block (hk _ (by omega)), h.ok, fun q h1 h2 => ⟨by omega, by omega, by omega⟩⟩


set_option maxRecDepth 8000 in
set_option maxHeartbeats 16000000 in
theorem mrun_any (f : Fn) (nv nb steps fr m0 m1 np ne nj cv cb cp ce cj : Nat) (seed : Int) (pl : List (List (List Pl))) (eds : List Ed) (jl : List Int) (av ab ap ae aj : Option Addr) (hr : machE f (m0 : Int) (m1 : Int) pl eds (fr : Int) (nb * nb + 1) = 0) (hnv : f.values.length = nv) (hnb : f.blocks.length = nb) (hst : steps ≤ 5000) (hnj : nj ≤ 64) (w : World) (hv : SlOf w 1 RInt (.slice av nv cv) f.values) (hb : SlOf w 3 (RBlk w) (.slice ab nb cb) f.blocks) (hp : SlOf w 1 (RPss w) (.slice ap np cp) pl) (hnp : pl.length = np) (he : SlOf w 3 (REd w) (.slice ae ne ce) eds) (hne : eds.length = ne) (hj : SlOf w 1 RInt (.slice aj nj cj) jl) (hjl : jl.length = nj) :
    Calls Try.prog 14 #[.agg #[.slice av nv cv, .slice ab nb cb], .agg #[.int .i64 (m0 : Int), .int .i64 (m1 : Int)], .agg #[.slice ap np cp, .slice ae ne ce, .int .i64 (fr : Int)], .int .i64 seed, .slice aj nj cj, .int .i64 (steps : Int)] w fun e w' => ∃ a n c, n = (mrunM f.blocks pl eds seed jl (fillM jl m0 m1 fr) steps).evs.length ∧ n ≤ c ∧ e = .returned (.tuple #[.slice a n c, .int .i64 0]) ∧ SlOf w' 4 (REvM w') (.slice a n c) (mrunM f.blocks pl eds seed jl (fillM jl m0 m1 fr) steps).evs ∧ Below w.heap.size w w' := by
  have MI := mach_in hr
  have hsh := MI.shape
  have hfr := MI.frame
  have hm0 : m0 ≤ 10 := by have := MI.b0; omega
  have hm1 : m1 ≤ 10 := by have := MI.b1; omega
  have hnb1 : nb ≤ 1000 := by have := (shape_in hsh).nb; omega
  have hpos : 0 < nb := by have := (shape_in hsh).pos; omega
  have hfit := MI.fits
  have hspot := MI.spots
  obtain ⟨N, hN⟩ : ∃ N, w.heap.size = N := ⟨_, rfl⟩
  obtain ⟨W, hW⟩ : ∃ W, W = ((w.alloc (.cells #[.slice av nv cv, .slice ab nb cb] 25)).alloc (.cells #[.int .i64 (m0 : Int), .int .i64 (m1 : Int)] 28)).alloc (.cells #[.slice ap np cp, .slice ae ne ce, .int .i64 (fr : Int)] 32) := ⟨_, rfl⟩
  have hbw : Below w.heap.size w W := by rw [hW]; exact (((Below.refl _ _).alloc (Nat.le_refl _) _).alloc (by simp) _).alloc (by simp; omega) _
  have zW : N + 2 < W.heap.size := by rw [hW]; simp [hN]
  obtain ⟨t0, t1, t2⟩ := three_at w #[.slice av nv cv, .slice ab nb cb] #[.int .i64 (m0 : Int), .int .i64 (m1 : Int)] #[.slice ap np cp, .slice ae ne ce, .int .i64 (fr : Int)] 25 28 32
  rw [← hW, hN] at t0 t1 t2
  have HSW : Hid (∀ w', Below W.heap.size W w' → (fun w' => w'.cell? ⟨N, 0, none⟩ = some (.slice av nv cv) ∧ w'.cell? ⟨N, 1, none⟩ = some (.slice ab nb cb) ∧ w'.cell? ⟨N + 1, 0, none⟩ = some (.int .i64 (m0 : Int)) ∧ w'.cell? ⟨N + 1, 1, none⟩ = some (.int .i64 (m1 : Int)) ∧ w'.cell? ⟨N + 2, 0, none⟩ = some (.slice ap np cp) ∧ w'.cell? ⟨N + 2, 1, none⟩ = some (.slice ae ne ce) ∧ w'.cell? ⟨N + 2, 2, none⟩ = some (.int .i64 (fr : Int))) w') := fun w' hh => ⟨(hh.cell (p := ⟨N, 0, none⟩) (show N < _ by omega)).trans (t0 0), (hh.cell (p := ⟨N, 1, none⟩) (show N < _ by omega)).trans (t0 1), (hh.cell (p := ⟨N + 1, 0, none⟩) (show N + 1 < _ by omega)).trans (t1 0), (hh.cell (p := ⟨N + 1, 1, none⟩) (show N + 1 < _ by omega)).trans (t1 1), (hh.cell (p := ⟨N + 2, 0, none⟩) (show N + 2 < _ by omega)).trans (t2 0), (hh.cell (p := ⟨N + 2, 1, none⟩) (show N + 2 < _ by omega)).trans (t2 1), (hh.cell (p := ⟨N + 2, 2, none⟩) (show N + 2 < _ by omega)).trans (t2 2)⟩
  obtain ⟨c0, c1, d0, d1, e0, e1, e2⟩ := HSW.out W (Below.refl _ _)
  have HC : Calls Try.prog 7 #[.agg #[.slice av nv cv, .slice ab nb cb], .agg #[.int .i64 (m0 : Int), .int .i64 (m1 : Int)], .agg #[.slice ap np cp, .slice ae ne ce, .int .i64 (fr : Int)]] W fun e w' => e = .returned (.int .i64 0) ∧ Below W.heap.size W w' := by
    subst hnv hnb
    exact machCheck_any f pl eds m0 m1 fr av ab ap ae cv cb np cp ne ce 0 hr W hnp hne (hv.below hbw fun _ _ h => h) (hb.below hbw (RBlk.below hbw)) (hp.below hbw (RPss.below hbw)) (he.below hbw (REd.below hbw))
  have HW : Hid (W = ((w.alloc (.cells #[.slice av nv cv, .slice ab nb cb] 25)).alloc (.cells #[.int .i64 (m0 : Int), .int .i64 (m1 : Int)] 28)).alloc (.cells #[.slice ap np cp, .slice ae ne ce, .int .i64 (fr : Int)] 32)) := hW
  have HN : Hid (w.heap.size = N) := hN
  have HBW : Hid (Below w.heap.size w W) := hbw
  obtain ⟨s0, hs0⟩ : ∃ s0, fillM jl m0 m1 fr = s0 := ⟨_, rfl⟩
  rw [hs0]
  have HS0 : Hid (fillM jl m0 m1 fr = s0) := hs0
  have HBS0 : Hid (SlOf w 3 (RBlk w) (.slice ab nb cb) f.blocks ∧ f.blocks.length = nb) := ⟨hb, hnb⟩
  have HPL0 : Hid (SlOf w 1 (RPss w) (.slice ap np cp) pl ∧ pl.length = np) := ⟨hp, hnp⟩
  have HED0 : Hid (SlOf w 3 (REd w) (.slice ae ne ce) eds ∧ eds.length = ne) := ⟨he, hne⟩
  have HJ0 : Hid (SlOf w 1 RInt (.slice aj nj cj) jl ∧ jl.length = nj) := ⟨hj, hjl⟩
  have HFT : Hid (FitsM fr f.blocks pl eds ∧ ∀ e ∈ eds, isSpotB f.blocks e = true) := ⟨hfit, hspot⟩
  generalize f.blocks = bs at *
  clear hW hN hbw hb hv hp he hj hnb hnp hne hjl hfit hspot hsh hr hnv MI t0 t1 t2 hs0 zW
  go_enter Try.func14, Try.ntmps14
  --CUT0
  go_upto_region 1 with fail
  rw [← HW.out, HN.out]
  clear HW
  --CUT1
  go_wp2_with fail
  refine HC.mono ?_
  clear HC c0 c1 d0 d1 e0 e1 e2
  rintro e w1 ⟨rfl, hb1⟩
  have HB1 : Hid (Below w.heap.size w w1) := HBW.out.trans (hb1.mono HBW.out.size)
  have HSF : Hid (∀ w', Below w1.heap.size w1 w' → (fun w' => w'.cell? ⟨N, 0, none⟩ = some (.slice av nv cv) ∧ w'.cell? ⟨N, 1, none⟩ = some (.slice ab nb cb) ∧ w'.cell? ⟨N + 1, 0, none⟩ = some (.int .i64 (m0 : Int)) ∧ w'.cell? ⟨N + 1, 1, none⟩ = some (.int .i64 (m1 : Int)) ∧ w'.cell? ⟨N + 2, 0, none⟩ = some (.slice ap np cp) ∧ w'.cell? ⟨N + 2, 1, none⟩ = some (.slice ae ne ce) ∧ w'.cell? ⟨N + 2, 2, none⟩ = some (.int .i64 (fr : Int))) w') := fun w' hh => HSW.out w' (hb1.trans (hh.mono hb1.size))
  have HBS : Hid (SlOf w1 3 (RBlk w1) (.slice ab nb cb) bs ∧ bs.length = nb ∧ (∀ blk ∈ bs, blk.instrs.length ≤ 1000) ∧ True) := ⟨HBS0.out.1.below HB1.out (RBlk.below HB1.out), HBS0.out.2, fun b hb => (HFT.out.1.ins b hb).1, trivial⟩
  have HPL : Hid (SlOf w1 1 (RPss w1) (.slice ap np cp) pl ∧ pl.length = np) := ⟨HPL0.out.1.below HB1.out (RPss.below HB1.out), HPL0.out.2⟩
  have HED : Hid (SlOf w1 3 (REd w1) (.slice ae ne ce) eds ∧ eds.length = ne ∧ ∀ e ∈ eds, isSpotB bs e = true) := ⟨HED0.out.1.below HB1.out (REd.below HB1.out), HED0.out.2, HFT.out.2⟩
  have HJ : Hid (SlOf w1 1 RInt (.slice aj nj cj) jl ∧ jl.length = nj ∧ nj ≤ 64) := ⟨HJ0.out.1.below HB1.out fun _ _ h => h, HJ0.out.2, hnj⟩
  have q0 : decide ((steps : Int) < 0) = false := by simp
  have q1 : decide ((5000 : Int) < (steps : Int)) = false := by simp; omega
  have q2 : ¬ (5000 : Int) < (steps : Int) := by omega
  have q3 : decide ((64 : Int) < (nj : Int)) = false := by simp; omega
  have q4 : ¬ (64 : Int) < (nj : Int) := by omega
  clear hb1 HBS0 HPL0 HED0 HJ0 HSW HBW
  --CUT2
  go_upto_region 8 with fail
  clear q0 q1 q2 q3 q4
  have hbd : Below w1.heap.size w1 w1.drew := (Below.refl _ _).drew
  --CUT3
  go_cut [15] (fun x wz => BegM w1 (.slice av nv cv) (.slice ab nb cb) (.slice ap np cp) fr nb nj cj aj bs eds jl seed steps s0 x wz)
  case first =>
    refine wp_region_X (fun w' => w'.cell? ⟨N, 0, none⟩ = some (.slice av nv cv) ∧ w'.cell? ⟨N, 1, none⟩ = some (.slice ab nb cb) ∧ w'.cell? ⟨N + 1, 0, none⟩ = some (.int .i64 (m0 : Int)) ∧ w'.cell? ⟨N + 1, 1, none⟩ = some (.int .i64 (m1 : Int)) ∧ w'.cell? ⟨N + 2, 0, none⟩ = some (.slice ap np cp) ∧ w'.cell? ⟨N + 2, 1, none⟩ = some (.slice ae ne ce) ∧ w'.cell? ⟨N + 2, 2, none⟩ = some (.int .i64 (fr : Int))) 99 (by kernel_rfl) (HSF.out _ hbd) (fun hHeld => ?_)
    refine wpXt (v := ?_) 0 rfl (by kernel_rfl) (fun _ _ _ h => h) (by rfl) ?_ hHeld ?_
    rotate_left
    · intro w' hSw
      go_simp <;> with_reducible rfl
    try simp only [Act.put, List.setIfInBounds_toArray, List.set_cons_zero, List.set_cons_succ]
    refine wpXt (v := ?_) 1 rfl (by kernel_rfl) (fun _ _ _ h => h) (by rfl) ?_ hHeld ?_
    rotate_left
    · intro w' hSw
      go_simp <;> with_reducible rfl
    try simp only [Act.put, List.setIfInBounds_toArray, List.set_cons_zero, List.set_cons_succ]
    refine wpXt (v := ?_) 2 rfl (by kernel_rfl) (fun _ _ _ h => h) (by rfl) ?_ hHeld ?_
    rotate_left
    · intro w' hSw
      go_simp <;> with_reducible rfl
    try simp only [Act.put, List.setIfInBounds_toArray, List.set_cons_zero, List.set_cons_succ]
    refine wpXt (v := ?_) 3 rfl (by kernel_rfl) (fun _ _ _ h => h) (by rfl) ?_ hHeld ?_
    rotate_left
    · intro w' hSw
      go_simp <;> with_reducible rfl
    try simp only [Act.put, List.setIfInBounds_toArray, List.set_cons_zero, List.set_cons_succ]
    refine wpXt (v := ?_) 4 rfl (by kernel_rfl) (fun _ _ _ h => h) (by rfl) ?_ hHeld ?_
    rotate_left
    · intro w' hSw
      go_simp <;> with_reducible rfl
    try simp only [Act.put, List.setIfInBounds_toArray, List.set_cons_zero, List.set_cons_succ]
    refine wpXt (v := ?_) 5 rfl (by kernel_rfl) (fun _ _ _ h => h) (by rfl) ?_ hHeld ?_
    rotate_left
    · intro w' hSw
      go_simp <;> with_reducible rfl
    try simp only [Act.put, List.setIfInBounds_toArray, List.set_cons_zero, List.set_cons_succ]
    refine wpXt (v := ?_) 7 rfl (by kernel_rfl) (fun _ _ _ h => h) (by rfl) ?_ hHeld ?_
    rotate_left
    · intro w' hSw
      go_simp <;> with_reducible rfl
    try simp only [Act.put, List.setIfInBounds_toArray, List.set_cons_zero, List.set_cons_succ]
    refine wpXt (v := ?_) 8 rfl (by kernel_rfl) (fun _ _ _ h => h) (by rfl) ?_ hHeld ?_
    rotate_left
    · intro w' hSw
      go_simp <;> with_reducible rfl
    try simp only [Act.put, List.setIfInBounds_toArray, List.set_cons_zero, List.set_cons_succ]
    refine wpXt (v := ?_) 9 rfl (by kernel_rfl) (fun _ _ _ h => h) (by rfl) ?_ hHeld ?_
    rotate_left
    · intro w' hSw
      go_simp <;> with_reducible rfl
    try simp only [Act.put, List.setIfInBounds_toArray, List.set_cons_zero, List.set_cons_succ]
    refine wpXt (v := ?_) 10 rfl (by kernel_rfl) (fun _ _ _ h => h) (by rfl) ?_ hHeld ?_
    rotate_left
    · intro w' hSw
      go_simp <;> with_reducible rfl
    try simp only [Act.put, List.setIfInBounds_toArray, List.set_cons_zero, List.set_cons_succ]
    refine wpXt (v := ?_) 11 rfl (by kernel_rfl) (fun _ _ _ h => h) (by rfl) ?_ hHeld ?_
    rotate_left
    · intro w' hSw
      go_simp <;> with_reducible rfl
    try simp only [Act.put, List.setIfInBounds_toArray, List.set_cons_zero, List.set_cons_succ]
    refine wpXt (v := ?_) 12 rfl (by kernel_rfl) (fun _ _ _ h => h) (by rfl) ?_ hHeld ?_
    rotate_left
    · intro w' hSw
      go_simp <;> with_reducible rfl
    try simp only [Act.put, List.setIfInBounds_toArray, List.set_cons_zero, List.set_cons_succ]
    refine wpAnyX_both (i := 6) (k := 15) rfl rfl (by kernel_rfl) (fun K hK => ?_) (fun K hK => ?_)
    --CUT4
    · go_simp
      refine (mbp_any w1 nb nv ne w1.drew.heap.size av ab ae cv cb ce bs eds w1.drew hbd rfl hnb1 (HBS.out.1.below hbd (RBlk.below hbd)) HBS.out.2.1 HBS.out.2.2.1 (HED.out.1) HED.out.2.1 HED.out.2.2).mono ?_
      rintro e w2 ⟨rfl, v, hmt⟩
      obtain ⟨M, hM⟩ : ∃ M, w1.drew.heap.size = M := ⟨_, rfl⟩
      rw [hM] at hmt ⊢
      have lM : w1.heap.size ≤ M := by rw [← hM]; exact hbd.size
      have bw2 : Below w1.heap.size w1 w2 := hbd.trans (hmt.low.mono lM)
      have szM : M + 2 + 2 * nb ≤ w2.heap.size := by
        have h1 := (hmt.rows (nb - 1) (by omega)).lt
        omega
      have lM1 : w1.drew.heap.size ≤ M := Nat.le_of_eq hM
      have lM2 : M ≤ w1.drew.heap.size := Nat.le_of_eq hM.symm
      clear hM
      refine hK.out _ _ (HSF.out _ bw2) (fun hHeld => ?_)
      clear hK K
      try simp only [Act.put, List.setIfInBounds_toArray, List.set_cons_zero, List.set_cons_succ]
      refine wpAnyX_both (i := 13) (k := 15) rfl rfl (by kernel_rfl) (fun K hK => ?_) (fun K hK => ?_)
      · go_simp
        refine (filled_any w2.heap.size fr m0 m1 nj cj aj jl w2 rfl hfr hm0 hm1 (HJ.out.1.below bw2 fun _ _ h => h) HJ.out.2.1 HJ.out.2.2).mono ?_
        rintro e w3 ⟨cs, rfl, c1, c2, c3, c4, c5⟩
        rw [HS0.out] at c2 c3 c5
        obtain ⟨G0, hG⟩ : ∃ G0, w2.heap.size = G0 := ⟨_, rfl⟩
        rw [hG] at c2 c3 c4
        have lG : w1.heap.size ≤ G0 := by rw [← hG]; exact bw2.size
        have lG1 : w2.heap.size ≤ G0 := Nat.le_of_eq hG
        have lG2 : G0 ≤ w2.heap.size := Nat.le_of_eq hG.symm
        clear hG
        have bw3 : Below w1.heap.size w1 w3 := bw2.trans (c4.mono lG)
        obtain rfl : cs = #[.int .i64 (s0.reg 0), .int .i64 (s0.reg 1), .int .i64 (s0.reg 2), .int .i64 (s0.reg 3), .int .i64 (s0.reg 4), .int .i64 (s0.reg 5), .int .i64 (s0.reg 6), .int .i64 (s0.reg 7), .int .i64 (s0.reg 8), .int .i64 (s0.reg 9), .int .i64 (s0.reg 10), .int .i64 (s0.reg 11), .int .i64 (s0.reg 12), .int .i64 (s0.reg 13), .int .i64 (s0.reg 14), .int .i64 (s0.reg 15), .int .i64 (s0.reg 16), .int .i64 (s0.reg 17), .int .i64 (s0.reg 18), .int .i64 (s0.reg 19), .int .i64 (s0.reg 20), .int .i64 (s0.reg 21), .slice (some ⟨G0 + 2, 0, none⟩) fr fr, .slice aj nj cj, .int .i64 (s0.nx : Int)] := by
          apply Array.ext_getElem?
          intro i
          by_cases hi : i < 25
          · rw [c2 i hi]
            match i, hi with | 0, _ => rfl | 1, _ => rfl | 2, _ => rfl | 3, _ => rfl | 4, _ => rfl | 5, _ => rfl | 6, _ => rfl | 7, _ => rfl | 8, _ => rfl | 9, _ => rfl | 10, _ => rfl | 11, _ => rfl | 12, _ => rfl | 13, _ => rfl | 14, _ => rfl | 15, _ => rfl | 16, _ => rfl | 17, _ => rfl | 18, _ => rfl | 19, _ => rfl | 20, _ => rfl | 21, _ => rfl | 22, _ => rfl | 23, _ => rfl | 24, _ => rfl | n + 25, h => exact absurd h (by omega)
          · rw [Array.getElem?_eq_none (by omega), Array.getElem?_eq_none (by simp; omega)]
        refine hK.out _ _ (HSF.out _ bw3) (fun hHeld => ?_)
        clear hK K
        try simp only [Act.put, List.setIfInBounds_toArray, List.set_cons_zero, List.set_cons_succ]
        refine wpXt (v := .agg #[.slice av nv cv, .slice ab nb cb, .slice ap np cp, .slice (some ⟨M + 1, 0, none⟩) nb nb, .int .i64 seed, .int .i64 (steps : Int), .int .i64 (s0.reg 0), .int .i64 (s0.reg 1), .int .i64 (s0.reg 2), .int .i64 (s0.reg 3), .int .i64 (s0.reg 4), .int .i64 (s0.reg 5), .int .i64 (s0.reg 6), .int .i64 (s0.reg 7), .int .i64 (s0.reg 8), .int .i64 (s0.reg 9), .int .i64 (s0.reg 10), .int .i64 (s0.reg 11), .int .i64 (s0.reg 12), .int .i64 (s0.reg 13), .int .i64 (s0.reg 14), .int .i64 (s0.reg 15), .int .i64 (s0.reg 16), .int .i64 (s0.reg 17), .int .i64 (s0.reg 18), .int .i64 (s0.reg 19), .int .i64 (s0.reg 20), .int .i64 (s0.reg 21), .slice (some ⟨G0 + 2, 0, none⟩) fr fr, .slice aj nj cj, .int .i64 (s0.nx : Int), .slice none 0 0]) 14 rfl (by kernel_rfl) (fun _ _ _ h => h) (by rfl) ?_ hHeld ?_
        · intro w' hSw
          exact exec_buildM 88 _ rfl _ (by kernel_rfl)
        try simp only [Act.put, List.setIfInBounds_toArray, List.set_cons_zero, List.set_cons_succ]
        refine wpXs 15 rfl (by kernel_rfl) (fun K hK => ?_)
        go_simp
        obtain ⟨w4, hw4⟩ : ∃ w4, w4 = w3.alloc (.cells #[.slice none 0 0, .slice none 0 0, .slice none 0 0, .slice none 0 0, .int .i64 0, .int .i64 0, .int .i64 0, .int .i64 0, .int .i64 0, .int .i64 0, .int .i64 0, .int .i64 0, .int .i64 0, .int .i64 0, .int .i64 0, .int .i64 0, .int .i64 0, .int .i64 0, .int .i64 0, .int .i64 0, .int .i64 0, .int .i64 0, .int .i64 0, .int .i64 0, .int .i64 0, .int .i64 0, .int .i64 0, .int .i64 0, .slice none 0 0, .slice none 0 0, .int .i64 0, .slice none 0 0] 88) := ⟨_, rfl⟩
        obtain ⟨X, hX⟩ : ∃ X, w3.heap.size = X := ⟨_, rfl⟩
        have bw4 : Below w1.heap.size w1 w4 := by rw [hw4]; exact bw3.alloc bw3.size _
        have hXa : w4.heap[X]? = some (.cells #[.slice none 0 0, .slice none 0 0, .slice none 0 0, .slice none 0 0, .int .i64 0, .int .i64 0, .int .i64 0, .int .i64 0, .int .i64 0, .int .i64 0, .int .i64 0, .int .i64 0, .int .i64 0, .int .i64 0, .int .i64 0, .int .i64 0, .int .i64 0, .int .i64 0, .int .i64 0, .int .i64 0, .int .i64 0, .int .i64 0, .int .i64 0, .int .i64 0, .int .i64 0, .int .i64 0, .int .i64 0, .int .i64 0, .slice none 0 0, .slice none 0 0, .int .i64 0, .slice none 0 0] 88 (0, 0)) := by rw [hw4]; exact heap_new _ _ _ _ hX
        have lX : w1.heap.size ≤ X := by rw [← hX]; exact bw3.size
        have lX1 : w3.heap.size ≤ X := Nat.le_of_eq hX
        have lX2 : X ≤ w3.heap.size := Nat.le_of_eq hX.symm
        have lXs : X < w4.heap.size := by rw [hw4]; simp; omega
        have kzw4 : Below w3.heap.size w3 w4 := by rw [hw4]; exact (Below.refl _ _).alloc (Nat.le_refl _) _
        rw [← hw4, hX]
        clear hw4 hX
        have t4 := kzw4.size
        refine hK.out _ _ (HSF.out _ bw4) (fun hHeld => ?_)
        clear hK K
        try simp only [Act.put, List.setIfInBounds_toArray, List.set_cons_zero, List.set_cons_succ]
        have s4 := c4.size
        have hmq := mvq_of (wz := w4) (X := X) (G := G0 + 2) hmt hpos (fun q hq => (kzw4.block q (by omega)).trans (c4.block q (by omega))) (by omega) (Or.inr (by omega)) (Or.inr (by omega))
        have c3b := c3.of_block (kzw4.block _ c3.lt)
        have hXG : X ≠ G0 + 2 := by have := c3.lt; omega
        obtain ⟨V, hV⟩ : ∃ V, w4.setRow X #[.slice av nv cv, .slice ab nb cb, .slice ap np cp, .slice (some ⟨M + 1, 0, none⟩) nb nb, .int .i64 seed, .int .i64 (steps : Int), .int .i64 (s0.reg 0), .int .i64 (s0.reg 1), .int .i64 (s0.reg 2), .int .i64 (s0.reg 3), .int .i64 (s0.reg 4), .int .i64 (s0.reg 5), .int .i64 (s0.reg 6), .int .i64 (s0.reg 7), .int .i64 (s0.reg 8), .int .i64 (s0.reg 9), .int .i64 (s0.reg 10), .int .i64 (s0.reg 11), .int .i64 (s0.reg 12), .int .i64 (s0.reg 13), .int .i64 (s0.reg 14), .int .i64 (s0.reg 15), .int .i64 (s0.reg 16), .int .i64 (s0.reg 17), .int .i64 (s0.reg 18), .int .i64 (s0.reg 19), .int .i64 (s0.reg 20), .int .i64 (s0.reg 21), .slice (some ⟨G0 + 2, 0, none⟩) fr fr, .slice aj nj cj, .int .i64 (s0.nx : Int), .slice none 0 0] = V := ⟨_, rfl⟩
        have HBE : Hid (BegM w1 (.slice av nv cv) (.slice ab nb cb) (.slice ap np cp) fr nb nj cj aj bs eds jl seed steps s0 (.pointer (some ⟨X, 0, none⟩)) V) := beg_setM hXa bw4 hmq c3b c5 lX (by omega) hXG hV
        refine wpXs 16 rfl (by kernel_rfl) (fun K hK => ?_)
        rw [if_pos (by rfl)]
        refine wp_rowM 88 _ _ rfl rfl X #[.slice av nv cv, .slice ab nb cb, .slice ap np cp, .slice (some ⟨M + 1, 0, none⟩) nb nb, .int .i64 seed, .int .i64 (steps : Int), .int .i64 (s0.reg 0), .int .i64 (s0.reg 1), .int .i64 (s0.reg 2), .int .i64 (s0.reg 3), .int .i64 (s0.reg 4), .int .i64 (s0.reg 5), .int .i64 (s0.reg 6), .int .i64 (s0.reg 7), .int .i64 (s0.reg 8), .int .i64 (s0.reg 9), .int .i64 (s0.reg 10), .int .i64 (s0.reg 11), .int .i64 (s0.reg 12), .int .i64 (s0.reg 13), .int .i64 (s0.reg 14), .int .i64 (s0.reg 15), .int .i64 (s0.reg 16), .int .i64 (s0.reg 17), .int .i64 (s0.reg 18), .int .i64 (s0.reg 19), .int .i64 (s0.reg 20), .int .i64 (s0.reg 21), .slice (some ⟨G0 + 2, 0, none⟩) fr fr, .slice aj nj cj, .int .i64 (s0.nx : Int), .slice none 0 0] rfl rfl 88 #[.slice none 0 0, .slice none 0 0, .slice none 0 0, .slice none 0 0, .int .i64 0, .int .i64 0, .int .i64 0, .int .i64 0, .int .i64 0, .int .i64 0, .int .i64 0, .int .i64 0, .int .i64 0, .int .i64 0, .int .i64 0, .int .i64 0, .int .i64 0, .int .i64 0, .int .i64 0, .int .i64 0, .int .i64 0, .int .i64 0, .int .i64 0, .int .i64 0, .int .i64 0, .int .i64 0, .int .i64 0, .int .i64 0, .slice none 0 0, .slice none 0 0, .int .i64 0, .slice none 0 0] hXa (by kernel_rfl) rfl (by kernel_rfl) V hV ?_
        refine hK.out _ _ (HSF.out _ (begM_low HBE.out)) (fun hHeld => ?_)
        clear hK K
        try simp only [Act.put, List.setIfInBounds_toArray, List.set_cons_zero, List.set_cons_succ]
        refine wpAnyX_done (by kernel_rfl) ?_ _
        clear hHeld hXa hmt hmq c1 c2 c3 c3b c4 c5 hV
        go_wp2
        go_meet
        exact HBE.out

      · go_simp
        obtain ⟨w3, hw3⟩ : ∃ w3, w3 = w2.alloc (.cells #[.slice none 0 0, .slice none 0 0, .slice none 0 0, .slice none 0 0, .int .i64 0, .int .i64 0, .int .i64 0, .int .i64 0, .int .i64 0, .int .i64 0, .int .i64 0, .int .i64 0, .int .i64 0, .int .i64 0, .int .i64 0, .int .i64 0, .int .i64 0, .int .i64 0, .int .i64 0, .int .i64 0, .int .i64 0, .int .i64 0, .int .i64 0, .int .i64 0, .int .i64 0, .int .i64 0, .int .i64 0, .int .i64 0, .slice none 0 0, .slice none 0 0, .int .i64 0, .slice none 0 0] 88) := ⟨_, rfl⟩
        obtain ⟨X, hX⟩ : ∃ X, w2.heap.size = X := ⟨_, rfl⟩
        have bw3 : Below w1.heap.size w1 w3 := by rw [hw3]; exact bw2.alloc bw2.size _
        have hXa : w3.heap[X]? = some (.cells #[.slice none 0 0, .slice none 0 0, .slice none 0 0, .slice none 0 0, .int .i64 0, .int .i64 0, .int .i64 0, .int .i64 0, .int .i64 0, .int .i64 0, .int .i64 0, .int .i64 0, .int .i64 0, .int .i64 0, .int .i64 0, .int .i64 0, .int .i64 0, .int .i64 0, .int .i64 0, .int .i64 0, .int .i64 0, .int .i64 0, .int .i64 0, .int .i64 0, .int .i64 0, .int .i64 0, .int .i64 0, .int .i64 0, .slice none 0 0, .slice none 0 0, .int .i64 0, .slice none 0 0] 88 (0, 0)) := by rw [hw3]; exact heap_new _ _ _ _ hX
        have lX : w1.heap.size ≤ X := by rw [← hX]; exact bw2.size
        have lX1 : w2.heap.size ≤ X := Nat.le_of_eq hX
        have lX2 : X ≤ w2.heap.size := Nat.le_of_eq hX.symm
        have lXs : X < w3.heap.size := by rw [hw3]; simp; omega
        have kzw3 : Below w2.heap.size w2 w3 := by rw [hw3]; exact (Below.refl _ _).alloc (Nat.le_refl _) _
        rw [← hw3, hX]
        clear hw3 hX
        have t3 := kzw3.size
        refine hK.out _ _ (HSF.out _ bw3) (fun hHeld => ?_)
        clear hK K
        try simp only [Act.put, List.setIfInBounds_toArray, List.set_cons_zero, List.set_cons_succ]
        refine wpXs 13 rfl (by kernel_rfl) (fun K hK => ?_)
        go_simp
        refine (filled_any w3.heap.size fr m0 m1 nj cj aj jl w3 rfl hfr hm0 hm1 (HJ.out.1.below bw3 fun _ _ h => h) HJ.out.2.1 HJ.out.2.2).mono ?_
        rintro e w4 ⟨cs, rfl, c1, c2, c3, c4, c5⟩
        rw [HS0.out] at c2 c3 c5
        obtain ⟨G0, hG⟩ : ∃ G0, w3.heap.size = G0 := ⟨_, rfl⟩
        rw [hG] at c2 c3 c4
        have lG : w1.heap.size ≤ G0 := by rw [← hG]; exact bw3.size
        have lG1 : w3.heap.size ≤ G0 := Nat.le_of_eq hG
        have lG2 : G0 ≤ w3.heap.size := Nat.le_of_eq hG.symm
        clear hG
        have bw4 : Below w1.heap.size w1 w4 := bw3.trans (c4.mono lG)
        obtain rfl : cs = #[.int .i64 (s0.reg 0), .int .i64 (s0.reg 1), .int .i64 (s0.reg 2), .int .i64 (s0.reg 3), .int .i64 (s0.reg 4), .int .i64 (s0.reg 5), .int .i64 (s0.reg 6), .int .i64 (s0.reg 7), .int .i64 (s0.reg 8), .int .i64 (s0.reg 9), .int .i64 (s0.reg 10), .int .i64 (s0.reg 11), .int .i64 (s0.reg 12), .int .i64 (s0.reg 13), .int .i64 (s0.reg 14), .int .i64 (s0.reg 15), .int .i64 (s0.reg 16), .int .i64 (s0.reg 17), .int .i64 (s0.reg 18), .int .i64 (s0.reg 19), .int .i64 (s0.reg 20), .int .i64 (s0.reg 21), .slice (some ⟨G0 + 2, 0, none⟩) fr fr, .slice aj nj cj, .int .i64 (s0.nx : Int)] := by
          apply Array.ext_getElem?
          intro i
          by_cases hi : i < 25
          · rw [c2 i hi]
            match i, hi with | 0, _ => rfl | 1, _ => rfl | 2, _ => rfl | 3, _ => rfl | 4, _ => rfl | 5, _ => rfl | 6, _ => rfl | 7, _ => rfl | 8, _ => rfl | 9, _ => rfl | 10, _ => rfl | 11, _ => rfl | 12, _ => rfl | 13, _ => rfl | 14, _ => rfl | 15, _ => rfl | 16, _ => rfl | 17, _ => rfl | 18, _ => rfl | 19, _ => rfl | 20, _ => rfl | 21, _ => rfl | 22, _ => rfl | 23, _ => rfl | 24, _ => rfl | n + 25, h => exact absurd h (by omega)
          · rw [Array.getElem?_eq_none (by omega), Array.getElem?_eq_none (by simp; omega)]
        refine hK.out _ _ (HSF.out _ bw4) (fun hHeld => ?_)
        clear hK K
        try simp only [Act.put, List.setIfInBounds_toArray, List.set_cons_zero, List.set_cons_succ]
        refine wpXt (v := .agg #[.slice av nv cv, .slice ab nb cb, .slice ap np cp, .slice (some ⟨M + 1, 0, none⟩) nb nb, .int .i64 seed, .int .i64 (steps : Int), .int .i64 (s0.reg 0), .int .i64 (s0.reg 1), .int .i64 (s0.reg 2), .int .i64 (s0.reg 3), .int .i64 (s0.reg 4), .int .i64 (s0.reg 5), .int .i64 (s0.reg 6), .int .i64 (s0.reg 7), .int .i64 (s0.reg 8), .int .i64 (s0.reg 9), .int .i64 (s0.reg 10), .int .i64 (s0.reg 11), .int .i64 (s0.reg 12), .int .i64 (s0.reg 13), .int .i64 (s0.reg 14), .int .i64 (s0.reg 15), .int .i64 (s0.reg 16), .int .i64 (s0.reg 17), .int .i64 (s0.reg 18), .int .i64 (s0.reg 19), .int .i64 (s0.reg 20), .int .i64 (s0.reg 21), .slice (some ⟨G0 + 2, 0, none⟩) fr fr, .slice aj nj cj, .int .i64 (s0.nx : Int), .slice none 0 0]) 14 rfl (by kernel_rfl) (fun _ _ _ h => h) (by rfl) ?_ hHeld ?_
        · intro w' hSw
          exact exec_buildM 88 _ rfl _ (by kernel_rfl)
        try simp only [Act.put, List.setIfInBounds_toArray, List.set_cons_zero, List.set_cons_succ]
        have s4 := c4.size
        have hmq := mvq_of (wz := w4) (X := X) (G := G0 + 2) hmt hpos (fun q hq => (c4.block q (by omega)).trans (kzw3.block q (by omega))) (by omega) (Or.inr (by omega)) (Or.inr (by omega))
        have hXG : X ≠ G0 + 2 := by omega
        have hXa : w4.heap[X]? = some (.cells #[.slice none 0 0, .slice none 0 0, .slice none 0 0, .slice none 0 0, .int .i64 0, .int .i64 0, .int .i64 0, .int .i64 0, .int .i64 0, .int .i64 0, .int .i64 0, .int .i64 0, .int .i64 0, .int .i64 0, .int .i64 0, .int .i64 0, .int .i64 0, .int .i64 0, .int .i64 0, .int .i64 0, .int .i64 0, .int .i64 0, .int .i64 0, .int .i64 0, .int .i64 0, .int .i64 0, .int .i64 0, .int .i64 0, .slice none 0 0, .slice none 0 0, .int .i64 0, .slice none 0 0] 88 (0, 0)) := (c4.block X (by omega)).trans hXa
        obtain ⟨V, hV⟩ : ∃ V, w4.setRow X #[.slice av nv cv, .slice ab nb cb, .slice ap np cp, .slice (some ⟨M + 1, 0, none⟩) nb nb, .int .i64 seed, .int .i64 (steps : Int), .int .i64 (s0.reg 0), .int .i64 (s0.reg 1), .int .i64 (s0.reg 2), .int .i64 (s0.reg 3), .int .i64 (s0.reg 4), .int .i64 (s0.reg 5), .int .i64 (s0.reg 6), .int .i64 (s0.reg 7), .int .i64 (s0.reg 8), .int .i64 (s0.reg 9), .int .i64 (s0.reg 10), .int .i64 (s0.reg 11), .int .i64 (s0.reg 12), .int .i64 (s0.reg 13), .int .i64 (s0.reg 14), .int .i64 (s0.reg 15), .int .i64 (s0.reg 16), .int .i64 (s0.reg 17), .int .i64 (s0.reg 18), .int .i64 (s0.reg 19), .int .i64 (s0.reg 20), .int .i64 (s0.reg 21), .slice (some ⟨G0 + 2, 0, none⟩) fr fr, .slice aj nj cj, .int .i64 (s0.nx : Int), .slice none 0 0] = V := ⟨_, rfl⟩
        have HBE : Hid (BegM w1 (.slice av nv cv) (.slice ab nb cb) (.slice ap np cp) fr nb nj cj aj bs eds jl seed steps s0 (.pointer (some ⟨X, 0, none⟩)) V) := beg_setM hXa bw4 hmq c3 c5 lX (by omega) hXG hV
        refine wpXs 16 rfl (by kernel_rfl) (fun K hK => ?_)
        rw [if_pos (by rfl)]
        refine wp_rowM 88 _ _ rfl rfl X #[.slice av nv cv, .slice ab nb cb, .slice ap np cp, .slice (some ⟨M + 1, 0, none⟩) nb nb, .int .i64 seed, .int .i64 (steps : Int), .int .i64 (s0.reg 0), .int .i64 (s0.reg 1), .int .i64 (s0.reg 2), .int .i64 (s0.reg 3), .int .i64 (s0.reg 4), .int .i64 (s0.reg 5), .int .i64 (s0.reg 6), .int .i64 (s0.reg 7), .int .i64 (s0.reg 8), .int .i64 (s0.reg 9), .int .i64 (s0.reg 10), .int .i64 (s0.reg 11), .int .i64 (s0.reg 12), .int .i64 (s0.reg 13), .int .i64 (s0.reg 14), .int .i64 (s0.reg 15), .int .i64 (s0.reg 16), .int .i64 (s0.reg 17), .int .i64 (s0.reg 18), .int .i64 (s0.reg 19), .int .i64 (s0.reg 20), .int .i64 (s0.reg 21), .slice (some ⟨G0 + 2, 0, none⟩) fr fr, .slice aj nj cj, .int .i64 (s0.nx : Int), .slice none 0 0] rfl rfl 88 #[.slice none 0 0, .slice none 0 0, .slice none 0 0, .slice none 0 0, .int .i64 0, .int .i64 0, .int .i64 0, .int .i64 0, .int .i64 0, .int .i64 0, .int .i64 0, .int .i64 0, .int .i64 0, .int .i64 0, .int .i64 0, .int .i64 0, .int .i64 0, .int .i64 0, .int .i64 0, .int .i64 0, .int .i64 0, .int .i64 0, .int .i64 0, .int .i64 0, .int .i64 0, .int .i64 0, .int .i64 0, .int .i64 0, .slice none 0 0, .slice none 0 0, .int .i64 0, .slice none 0 0] hXa (by kernel_rfl) rfl (by kernel_rfl) V hV ?_
        refine hK.out _ _ (HSF.out _ (begM_low HBE.out)) (fun hHeld => ?_)
        clear hK K
        try simp only [Act.put, List.setIfInBounds_toArray, List.set_cons_zero, List.set_cons_succ]
        refine wpAnyX_done (by kernel_rfl) ?_ _
        clear hHeld hXa hmt hmq c1 c2 c3 c4 c5 hV
        go_wp2
        go_meet
        exact HBE.out

    · go_simp
      obtain ⟨w2, hw2⟩ : ∃ w2, w2 = (w1.alloc (.cells #[.slice none 0 0, .slice none 0 0, .slice none 0 0, .slice none 0 0, .int .i64 0, .int .i64 0, .int .i64 0, .int .i64 0, .int .i64 0, .int .i64 0, .int .i64 0, .int .i64 0, .int .i64 0, .int .i64 0, .int .i64 0, .int .i64 0, .int .i64 0, .int .i64 0, .int .i64 0, .int .i64 0, .int .i64 0, .int .i64 0, .int .i64 0, .int .i64 0, .int .i64 0, .int .i64 0, .int .i64 0, .int .i64 0, .slice none 0 0, .slice none 0 0, .int .i64 0, .slice none 0 0] 88)).drew := ⟨_, rfl⟩
      obtain ⟨X, hX⟩ : ∃ X, w1.heap.size = X := ⟨_, rfl⟩
      have bw2 : Below w1.heap.size w1 w2 := by rw [hw2]; exact ((Below.refl _ _).alloc (Nat.le_refl _) _).drew
      have hXa : w2.heap[X]? = some (.cells #[.slice none 0 0, .slice none 0 0, .slice none 0 0, .slice none 0 0, .int .i64 0, .int .i64 0, .int .i64 0, .int .i64 0, .int .i64 0, .int .i64 0, .int .i64 0, .int .i64 0, .int .i64 0, .int .i64 0, .int .i64 0, .int .i64 0, .int .i64 0, .int .i64 0, .int .i64 0, .int .i64 0, .int .i64 0, .int .i64 0, .int .i64 0, .int .i64 0, .int .i64 0, .int .i64 0, .int .i64 0, .int .i64 0, .slice none 0 0, .slice none 0 0, .int .i64 0, .slice none 0 0] 88 (0, 0)) := by rw [hw2]; exact heap_new _ _ _ _ hX
      have lX : w1.heap.size ≤ X := Nat.le_of_eq hX
      have lXs : X < w2.heap.size := by
        rw [hw2]
        show X < (w1.alloc (.cells #[.slice none 0 0, .slice none 0 0, .slice none 0 0, .slice none 0 0, .int .i64 0, .int .i64 0, .int .i64 0, .int .i64 0, .int .i64 0, .int .i64 0, .int .i64 0, .int .i64 0, .int .i64 0, .int .i64 0, .int .i64 0, .int .i64 0, .int .i64 0, .int .i64 0, .int .i64 0, .int .i64 0, .int .i64 0, .int .i64 0, .int .i64 0, .int .i64 0, .int .i64 0, .int .i64 0, .int .i64 0, .int .i64 0, .slice none 0 0, .slice none 0 0, .int .i64 0, .slice none 0 0] 88)).heap.size
        simp
        omega
      rw [← hw2, hX]
      clear hw2 hX
      refine hK.out _ _ (HSF.out _ bw2) (fun hHeld => ?_)
      clear hK K
      try simp only [Act.put, List.setIfInBounds_toArray, List.set_cons_zero, List.set_cons_succ]
      refine wpXs 6 rfl (by kernel_rfl) (fun K hK => ?_)
      go_simp
      refine (mbp_any w1 nb nv ne w2.heap.size av ab ae cv cb ce bs eds w2 bw2 rfl hnb1 (HBS.out.1.below bw2 (RBlk.below bw2)) HBS.out.2.1 HBS.out.2.2.1 (HED.out.1) HED.out.2.1 HED.out.2.2).mono ?_
      rintro e w3 ⟨rfl, v, hmt⟩
      obtain ⟨M, hM⟩ : ∃ M, w2.heap.size = M := ⟨_, rfl⟩
      rw [hM] at hmt ⊢
      have lM : w1.heap.size ≤ M := by rw [← hM]; exact bw2.size
      have bw3 : Below w1.heap.size w1 w3 := bw2.trans (hmt.low.mono lM)
      have szM : M + 2 + 2 * nb ≤ w3.heap.size := by
        have h1 := (hmt.rows (nb - 1) (by omega)).lt
        omega
      have lM1 : w2.heap.size ≤ M := Nat.le_of_eq hM
      have lM2 : M ≤ w2.heap.size := Nat.le_of_eq hM.symm
      clear hM
      refine hK.out _ _ (HSF.out _ bw3) (fun hHeld => ?_)
      clear hK K
      try simp only [Act.put, List.setIfInBounds_toArray, List.set_cons_zero, List.set_cons_succ]
      refine wpXs 13 rfl (by kernel_rfl) (fun K hK => ?_)
      go_simp
      refine (filled_any w3.heap.size fr m0 m1 nj cj aj jl w3 rfl hfr hm0 hm1 (HJ.out.1.below bw3 fun _ _ h => h) HJ.out.2.1 HJ.out.2.2).mono ?_
      rintro e w4 ⟨cs, rfl, c1, c2, c3, c4, c5⟩
      rw [HS0.out] at c2 c3 c5
      obtain ⟨G0, hG⟩ : ∃ G0, w3.heap.size = G0 := ⟨_, rfl⟩
      rw [hG] at c2 c3 c4
      have lG : w1.heap.size ≤ G0 := by rw [← hG]; exact bw3.size
      have lG1 : w3.heap.size ≤ G0 := Nat.le_of_eq hG
      have lG2 : G0 ≤ w3.heap.size := Nat.le_of_eq hG.symm
      clear hG
      have bw4 : Below w1.heap.size w1 w4 := bw3.trans (c4.mono lG)
      obtain rfl : cs = #[.int .i64 (s0.reg 0), .int .i64 (s0.reg 1), .int .i64 (s0.reg 2), .int .i64 (s0.reg 3), .int .i64 (s0.reg 4), .int .i64 (s0.reg 5), .int .i64 (s0.reg 6), .int .i64 (s0.reg 7), .int .i64 (s0.reg 8), .int .i64 (s0.reg 9), .int .i64 (s0.reg 10), .int .i64 (s0.reg 11), .int .i64 (s0.reg 12), .int .i64 (s0.reg 13), .int .i64 (s0.reg 14), .int .i64 (s0.reg 15), .int .i64 (s0.reg 16), .int .i64 (s0.reg 17), .int .i64 (s0.reg 18), .int .i64 (s0.reg 19), .int .i64 (s0.reg 20), .int .i64 (s0.reg 21), .slice (some ⟨G0 + 2, 0, none⟩) fr fr, .slice aj nj cj, .int .i64 (s0.nx : Int)] := by
        apply Array.ext_getElem?
        intro i
        by_cases hi : i < 25
        · rw [c2 i hi]
          match i, hi with | 0, _ => rfl | 1, _ => rfl | 2, _ => rfl | 3, _ => rfl | 4, _ => rfl | 5, _ => rfl | 6, _ => rfl | 7, _ => rfl | 8, _ => rfl | 9, _ => rfl | 10, _ => rfl | 11, _ => rfl | 12, _ => rfl | 13, _ => rfl | 14, _ => rfl | 15, _ => rfl | 16, _ => rfl | 17, _ => rfl | 18, _ => rfl | 19, _ => rfl | 20, _ => rfl | 21, _ => rfl | 22, _ => rfl | 23, _ => rfl | 24, _ => rfl | n + 25, h => exact absurd h (by omega)
        · rw [Array.getElem?_eq_none (by omega), Array.getElem?_eq_none (by simp; omega)]
      refine hK.out _ _ (HSF.out _ bw4) (fun hHeld => ?_)
      clear hK K
      try simp only [Act.put, List.setIfInBounds_toArray, List.set_cons_zero, List.set_cons_succ]
      refine wpXt (v := .agg #[.slice av nv cv, .slice ab nb cb, .slice ap np cp, .slice (some ⟨M + 1, 0, none⟩) nb nb, .int .i64 seed, .int .i64 (steps : Int), .int .i64 (s0.reg 0), .int .i64 (s0.reg 1), .int .i64 (s0.reg 2), .int .i64 (s0.reg 3), .int .i64 (s0.reg 4), .int .i64 (s0.reg 5), .int .i64 (s0.reg 6), .int .i64 (s0.reg 7), .int .i64 (s0.reg 8), .int .i64 (s0.reg 9), .int .i64 (s0.reg 10), .int .i64 (s0.reg 11), .int .i64 (s0.reg 12), .int .i64 (s0.reg 13), .int .i64 (s0.reg 14), .int .i64 (s0.reg 15), .int .i64 (s0.reg 16), .int .i64 (s0.reg 17), .int .i64 (s0.reg 18), .int .i64 (s0.reg 19), .int .i64 (s0.reg 20), .int .i64 (s0.reg 21), .slice (some ⟨G0 + 2, 0, none⟩) fr fr, .slice aj nj cj, .int .i64 (s0.nx : Int), .slice none 0 0]) 14 rfl (by kernel_rfl) (fun _ _ _ h => h) (by rfl) ?_ hHeld ?_
      · intro w' hSw
        exact exec_buildM 88 _ rfl _ (by kernel_rfl)
      try simp only [Act.put, List.setIfInBounds_toArray, List.set_cons_zero, List.set_cons_succ]
      have s4 := c4.size
      have hmq := mvq_of (wz := w4) (X := X) (G := G0 + 2) hmt hpos (fun q hq => c4.block q (by omega)) (by omega) (Or.inl (by omega)) (Or.inr (by omega))
      have hXG : X ≠ G0 + 2 := by omega
      have hXa : w4.heap[X]? = some (.cells #[.slice none 0 0, .slice none 0 0, .slice none 0 0, .slice none 0 0, .int .i64 0, .int .i64 0, .int .i64 0, .int .i64 0, .int .i64 0, .int .i64 0, .int .i64 0, .int .i64 0, .int .i64 0, .int .i64 0, .int .i64 0, .int .i64 0, .int .i64 0, .int .i64 0, .int .i64 0, .int .i64 0, .int .i64 0, .int .i64 0, .int .i64 0, .int .i64 0, .int .i64 0, .int .i64 0, .int .i64 0, .int .i64 0, .slice none 0 0, .slice none 0 0, .int .i64 0, .slice none 0 0] 88 (0, 0)) := (c4.block X (by omega)).trans ((hmt.low.block X (by omega)).trans hXa)
      obtain ⟨V, hV⟩ : ∃ V, w4.setRow X #[.slice av nv cv, .slice ab nb cb, .slice ap np cp, .slice (some ⟨M + 1, 0, none⟩) nb nb, .int .i64 seed, .int .i64 (steps : Int), .int .i64 (s0.reg 0), .int .i64 (s0.reg 1), .int .i64 (s0.reg 2), .int .i64 (s0.reg 3), .int .i64 (s0.reg 4), .int .i64 (s0.reg 5), .int .i64 (s0.reg 6), .int .i64 (s0.reg 7), .int .i64 (s0.reg 8), .int .i64 (s0.reg 9), .int .i64 (s0.reg 10), .int .i64 (s0.reg 11), .int .i64 (s0.reg 12), .int .i64 (s0.reg 13), .int .i64 (s0.reg 14), .int .i64 (s0.reg 15), .int .i64 (s0.reg 16), .int .i64 (s0.reg 17), .int .i64 (s0.reg 18), .int .i64 (s0.reg 19), .int .i64 (s0.reg 20), .int .i64 (s0.reg 21), .slice (some ⟨G0 + 2, 0, none⟩) fr fr, .slice aj nj cj, .int .i64 (s0.nx : Int), .slice none 0 0] = V := ⟨_, rfl⟩
      have HBE : Hid (BegM w1 (.slice av nv cv) (.slice ab nb cb) (.slice ap np cp) fr nb nj cj aj bs eds jl seed steps s0 (.pointer (some ⟨X, 0, none⟩)) V) := beg_setM hXa bw4 hmq c3 c5 lX (by omega) hXG hV
      refine wpXs 16 rfl (by kernel_rfl) (fun K hK => ?_)
      rw [if_pos (by rfl)]
      refine wp_rowM 88 _ _ rfl rfl X #[.slice av nv cv, .slice ab nb cb, .slice ap np cp, .slice (some ⟨M + 1, 0, none⟩) nb nb, .int .i64 seed, .int .i64 (steps : Int), .int .i64 (s0.reg 0), .int .i64 (s0.reg 1), .int .i64 (s0.reg 2), .int .i64 (s0.reg 3), .int .i64 (s0.reg 4), .int .i64 (s0.reg 5), .int .i64 (s0.reg 6), .int .i64 (s0.reg 7), .int .i64 (s0.reg 8), .int .i64 (s0.reg 9), .int .i64 (s0.reg 10), .int .i64 (s0.reg 11), .int .i64 (s0.reg 12), .int .i64 (s0.reg 13), .int .i64 (s0.reg 14), .int .i64 (s0.reg 15), .int .i64 (s0.reg 16), .int .i64 (s0.reg 17), .int .i64 (s0.reg 18), .int .i64 (s0.reg 19), .int .i64 (s0.reg 20), .int .i64 (s0.reg 21), .slice (some ⟨G0 + 2, 0, none⟩) fr fr, .slice aj nj cj, .int .i64 (s0.nx : Int), .slice none 0 0] rfl rfl 88 #[.slice none 0 0, .slice none 0 0, .slice none 0 0, .slice none 0 0, .int .i64 0, .int .i64 0, .int .i64 0, .int .i64 0, .int .i64 0, .int .i64 0, .int .i64 0, .int .i64 0, .int .i64 0, .int .i64 0, .int .i64 0, .int .i64 0, .int .i64 0, .int .i64 0, .int .i64 0, .int .i64 0, .int .i64 0, .int .i64 0, .int .i64 0, .int .i64 0, .int .i64 0, .int .i64 0, .int .i64 0, .int .i64 0, .slice none 0 0, .slice none 0 0, .int .i64 0, .slice none 0 0] hXa (by kernel_rfl) rfl (by kernel_rfl) V hV ?_
      refine hK.out _ _ (HSF.out _ (begM_low HBE.out)) (fun hHeld => ?_)
      clear hK K
      try simp only [Act.put, List.setIfInBounds_toArray, List.set_cons_zero, List.set_cons_succ]
      refine wpAnyX_done (by kernel_rfl) ?_ _
      clear hHeld hXa hmt hmq c1 c2 c3 c4 c5 hV
      go_wp2
      go_meet
      exact HBE.out

  case rest =>
    obtain ⟨X, G, M, v, rfl, hms, htb, hnx⟩ := hcut
    clear hbd HSF
    have k0 : WkM w1 wc.heap.size X G fr (hM (.slice av nv cv) (.slice ab nb cb) (.slice ap np cp) M G fr nb nj cj aj seed) M nb (lnB bs) v (mvAt eds) s0 ((steps - 0 : Nat) : Int) (.slice none 0 0) [] wc := ⟨hms, htb, ⟨rfl, Or.inl ⟨rfl, rfl⟩⟩, (fun p hp => by cases hp), hms.bx.lt, hms.sl.lt, Nat.le_refl _⟩
    obtain ⟨B, hB⟩ : ∃ B, wc.heap.size = B := ⟨_, rfl⟩
    rw [hB] at k0
    have HJK : Hid (JkS w1 (hM (.slice av nv cv) (.slice ab nb cb) (.slice ap np cp) M G fr nb nj cj aj seed) aj nj cj jl) := ⟨rfl, HJ.out.1, HJ.out.2.1, HJ.out.2.2⟩
    have HI0 : Hid (MrI' w1 B X G fr (hM (.slice av nv cv) (.slice ab nb cb) (.slice ap np cp) M G fr nb nj cj aj seed) M nb (lnB bs) v bs pl eds seed jl s0 steps 0 wc) := ⟨_, _, _, _, k0, hnx, Or.inr ⟨0, 0, rfl, by rw [HBS.out.2.1]; exact hpos, Nat.zero_le _, rfl, Nat.le_refl _, rfl⟩⟩
    clear k0 hms htb hnx hB
    --CUT5
    go_wp2_with fail
    go_loopw [16] (fun v' wr => ∃ r : Int, v' = .int .i64 r ∧ Hid (MrI' w1 B X G fr (hM (.slice av nv cv) (.slice ab nb cb) (.slice ap np cp) M G fr nb nj cj aj seed) M nb (lnB bs) v bs pl eds seed jl s0 steps r wr)) (fun v' wr => mrMs X v' wr)
    case atStart => exact ⟨0, rfl, HI0⟩
    case round =>
      clear HI0
      obtain ⟨r, rfl, HI⟩ := hrel
      by_cases hr : r = -1
      · subst hr
        obtain ⟨left, s, ve, es, hk, hx, h1⟩ := HI.out
        have h2 : es.map (·.1) = (mrunM bs pl eds seed jl s0 steps).evs := by
          rcases h1 with h1 | ⟨b, t, h1, _⟩
          · exact h1.2
          · omega
        obtain ⟨n, hn⟩ : ∃ n, es.length = n := ⟨_, rfl⟩
        obtain ⟨a, c, rfl, hnc⟩ : ∃ a c, ve = .slice a n c ∧ n ≤ c := by
          rcases hk.own.2 with ⟨h3, h4⟩ | ⟨g, cap, cur, h3, _, _, h5, _⟩
          · exact ⟨_, _, by rw [h3, ← hn, h4], by rw [← hn, h4]; exact Nat.le_refl _⟩
          · exact ⟨_, _, by rw [h3, ← hn], by rw [← hn]; exact h5⟩
        have hlen : n = (mrunM bs pl eds seed jl s0 steps).evs.length := by rw [← h2, List.length_map, hn]
        have hfew := mrun_le (bs := bs) (pl := pl) (eds := eds) (seed := seed) (jl := jl) (s0 := s0) steps
        have x31 : wr.cell? ⟨X, 31, none⟩ = some (.slice a n c) := by rw [hk.mw.bx.cell (i := 31) (by omega), mwF_31]
        have hsl : SlOf wr 4 (REvM wr) (.slice a n c) (mrunM bs pl eds seed jl s0 steps).evs := by
          rw [← h2]
          have h3 : SlOf wr 4 (fun cs p => cs = cVm p) (.slice a n c) es := own_sl (k := 4) cVm (fun _ => rfl) (by decide) (fun _ => rfl) es (by have := hk.own; rw [hn] at this; exact this) (by unfold longest; omega)
          exact sl_mapM (R' := REvM wr) (fun p : MEvt × Value => p.1) h3 fun p hp cs hcs => ⟨p.2, hcs, (hk.rd p hp).1⟩
        have HE : Hid (n = (mrunM bs pl eds seed jl s0 steps).evs.length ∧ SlOf wr 4 (REvM wr) (.slice a n c) (mrunM bs pl eds seed jl s0 steps).evs ∧ Below w.heap.size w wr) := ⟨hlen, hsl, HB1.out.trans (hk.mw.low.mono HB1.out.size)⟩
        clear HI hk h1 h2 hn hlen hfew hsl
        --CUT6
        go_wp2
        go_ret2
        exact ⟨a, n, c, HE.out.1, hnc, rfl, HE.out.2.1, HE.out.2.2⟩
      · obtain ⟨left, s, ve, es, hk, hx, h1⟩ := HI.out
        obtain ⟨b, t, hrb, hbl, ht, hle, hes, hrun⟩ := h1.resolve_left fun h => hr h.1
        subst hrb hle
        have c3 : wr.cell? ⟨X, 5, none⟩ = some (.int .i64 ((steps - t : Nat) : Int)) := hk.mw.bx.cell (i := 5) (by omega)
        have HC3 : Hid (wr.cell? ⟨X, 5, none⟩ = some (.int .i64 ((steps - t : Nat) : Int))) := c3
        have HC := mthrough_any w1 B X G fr M nb cb b steps t np cp nj cj _ v ve seed s0 s es bs pl eds jl ab ap aj wr hk hfr rfl rfl rfl rfl HJK.out hx HBS.out.1 HBS.out.2.1 HPL.out.1 HPL.out.2 HFT.out.1 (by rw [← HBS.out.2.1]; exact hbl) ht hst hnb1 hes hrun
        have q : ((b : Int) == -1) = false := by simp
        clear hk h1 hrun HI c3 hr hes hbl
        --CUT7
        go_wp2_with fail
        refine HC.mono ?_
        clear HC
        rintro e w2 ⟨r2, rfl, hend⟩
        have hm := MrI'.of_end (b := b) hend HC3.out
        have HM1 : Hid (MrI' w1 B X G fr (hM (.slice av nv cv) (.slice ab nb cb) (.slice ap np cp) M G fr nb nj cj aj seed) M nb (lnB bs) v bs pl eds seed jl s0 steps r2 w2) := hm.1
        have HM2 : Hid (mrMs X (.int .i64 r2) w2 < mrMs X (.int .i64 (b : Int)) wr) := hm.2
        clear hend hm
        go_wp2
        go_roundw
        case rel => exact ⟨r2, rfl, HM1⟩
        case measure => exact HM2.out
end Go.Proofs.Ytjbjnndmpheedaa
