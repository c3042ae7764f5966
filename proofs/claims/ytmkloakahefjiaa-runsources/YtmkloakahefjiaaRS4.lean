/-
  The reference's 'SourceRun' (P4.4): what it answers; and what both answer where there is an error.
  The contracts of the exact statements' own 'sameInts' and 'sameEvents'.
-/
import Derived.Test.YtmkloakahefjiaaRS3
import Derived.Test.YtmkloakahefjiaaC10
import Derived.Test.YtmkloakahefjiaaR6
import Derived.Deep.QuietTactic
import Derived.BigQuiet
namespace Go.Proofs.Ytmkloakahefjiaa
open Go.RowKit
set_option linter.unusedVariables false

set_option maxHeartbeats 4000000 in
theorem source_err (f : Fn) (nv nb : Nat) (m0 m1 seed st r : Int) (av ab : Option Addr) (cv cb : Nat) (hr : flowE f m0 m1 (nb * nb + 1) = r) (h0 : r ≠ 0) (hnv : f.values.length = nv) (hnb : f.blocks.length = nb) (w : World) (hv : SlOf w 1 RInt (.slice av nv cv) f.values) (hb : SlOf w 3 (RBlk w) (.slice ab nb cb) f.blocks) :
    Calls Try.prog 4 #[.agg #[.slice av nv cv, .slice ab nb cb], .agg #[.int .i64 m0, .int .i64 m1], .int .i64 seed, .int .i64 st] w fun e w' => e = .returned (.tuple #[.slice none 0 0, .int .i64 r]) ∧ Below w.heap.size w w' := by
  obtain ⟨N, hN⟩ : ∃ N, w.heap.size = N := ⟨_, rfl⟩
  obtain ⟨W, hW⟩ : ∃ W, W = (w.alloc (.cells #[.slice av nv cv, .slice ab nb cb] 25)).alloc (.cells #[.int .i64 m0, .int .i64 m1] 28) := ⟨_, rfl⟩
  have hbw : Below w.heap.size w W := by rw [hW]; exact ((Below.refl _ _).alloc (Nat.le_refl _) _).alloc (by simp) _
  have zW : W.heap.size = N + 1 + 1 := by rw [hW, ← hN]; simp
  obtain ⟨t0, t1⟩ := two_at w #[.slice av nv cv, .slice ab nb cb] #[.int .i64 m0, .int .i64 m1] 25 28
  rw [← hW, hN] at t0 t1
  have c0 : W.cell? ⟨N, 0, none⟩ = some (.slice av nv cv) := t0 0
  have c1 : W.cell? ⟨N, 1, none⟩ = some (.slice ab nb cb) := t0 1
  have d0 : W.cell? ⟨N + 1, 0, none⟩ = some (.int .i64 m0) := t1 0
  have d1 : W.cell? ⟨N + 1, 1, none⟩ = some (.int .i64 m1) := t1 1
  have HW : Hid (W = (w.alloc (.cells #[.slice av nv cv, .slice ab nb cb] 25)).alloc (.cells #[.int .i64 m0, .int .i64 m1] 28)) := hW
  have HN : Hid (w.heap.size = N) := hN
  have HBW : Hid (Below w.heap.size w W) := hbw
  have HFC : Hid (∀ w', Below W.heap.size W w' → w'.cell? ⟨N, 0, none⟩ = some (.slice av nv cv) ∧ w'.cell? ⟨N, 1, none⟩ = some (.slice ab nb cb) ∧ N < w'.heap.size) := fun w' hh => ⟨(hh.cell (p := ⟨N, 0, none⟩) (by simp; omega)).trans (t0 0), (hh.cell (p := ⟨N, 1, none⟩) (by simp; omega)).trans (t0 1), by have := hh.size; omega⟩
  have HC : Calls Try.prog 7 #[.agg #[.slice av nv cv, .slice ab nb cb], .agg #[.int .i64 m0, .int .i64 m1]] W fun e w' => e = .returned (.int .i64 r) ∧ Below W.heap.size W w' := by
    subst hnv hnb
    exact flowCheck_any f _ m0 m1 av ab cv cb r hr W (hv.below hbw fun _ _ h => h) (hb.below hbw (RBlk.below hbw)) (fun h => flowIn_all h)
  have q : (r != 0) = true := by simpa using h0
  clear hW hN hbw hb hv hr h0 zW t0 t1 hnv hnb
  go_enter Try.func4, Try.ntmps4
  go_upto_region 1 with fail
  rw [← HW.out, HN.out]
  clear HW
  go_wp2_with fail
  refine HC.mono ?_
  clear HC c0 c1 d0 d1
  rintro e w1 ⟨rfl, hb1⟩
  have HB1 : Hid (Below w.heap.size w w1) := HBW.out.trans (hb1.mono HBW.out.size)
  clear hb1 HFC
  go_wp2
  go_ret2
  exact ⟨rfl, HB1.out⟩

set_option maxHeartbeats 4000000 in
theorem source_rng (f : Fn) (nv nb : Nat) (m0 m1 seed st : Int) (av ab : Option Addr) (cv cb : Nat) (hr : flowE f m0 m1 (nb * nb + 1) = 0) (h0 : st < 0 ∨ 5000 < st) (hnv : f.values.length = nv) (hnb : f.blocks.length = nb) (w : World) (hv : SlOf w 1 RInt (.slice av nv cv) f.values) (hb : SlOf w 3 (RBlk w) (.slice ab nb cb) f.blocks) :
    Calls Try.prog 4 #[.agg #[.slice av nv cv, .slice ab nb cb], .agg #[.int .i64 m0, .int .i64 m1], .int .i64 seed, .int .i64 st] w fun e w' => e = .returned (.tuple #[.slice none 0 0, .int .i64 2]) ∧ Below w.heap.size w w' := by
  obtain ⟨N, hN⟩ : ∃ N, w.heap.size = N := ⟨_, rfl⟩
  obtain ⟨W, hW⟩ : ∃ W, W = (w.alloc (.cells #[.slice av nv cv, .slice ab nb cb] 25)).alloc (.cells #[.int .i64 m0, .int .i64 m1] 28) := ⟨_, rfl⟩
  have hbw : Below w.heap.size w W := by rw [hW]; exact ((Below.refl _ _).alloc (Nat.le_refl _) _).alloc (by simp) _
  have zW : W.heap.size = N + 1 + 1 := by rw [hW, ← hN]; simp
  obtain ⟨t0, t1⟩ := two_at w #[.slice av nv cv, .slice ab nb cb] #[.int .i64 m0, .int .i64 m1] 25 28
  rw [← hW, hN] at t0 t1
  have c0 : W.cell? ⟨N, 0, none⟩ = some (.slice av nv cv) := t0 0
  have c1 : W.cell? ⟨N, 1, none⟩ = some (.slice ab nb cb) := t0 1
  have d0 : W.cell? ⟨N + 1, 0, none⟩ = some (.int .i64 m0) := t1 0
  have d1 : W.cell? ⟨N + 1, 1, none⟩ = some (.int .i64 m1) := t1 1
  have HW : Hid (W = (w.alloc (.cells #[.slice av nv cv, .slice ab nb cb] 25)).alloc (.cells #[.int .i64 m0, .int .i64 m1] 28)) := hW
  have HN : Hid (w.heap.size = N) := hN
  have HBW : Hid (Below w.heap.size w W) := hbw
  have HFC : Hid (∀ w', Below W.heap.size W w' → w'.cell? ⟨N, 0, none⟩ = some (.slice av nv cv) ∧ w'.cell? ⟨N, 1, none⟩ = some (.slice ab nb cb) ∧ N < w'.heap.size) := fun w' hh => ⟨(hh.cell (p := ⟨N, 0, none⟩) (by simp; omega)).trans (t0 0), (hh.cell (p := ⟨N, 1, none⟩) (by simp; omega)).trans (t0 1), by have := hh.size; omega⟩
  have HC : Calls Try.prog 7 #[.agg #[.slice av nv cv, .slice ab nb cb], .agg #[.int .i64 m0, .int .i64 m1]] W fun e w' => e = .returned (.int .i64 0) ∧ Below W.heap.size W w' := by
    subst hnv hnb
    exact flowCheck_any f _ m0 m1 av ab cv cb 0 hr W (hv.below hbw fun _ _ h => h) (hb.below hbw (RBlk.below hbw)) (fun h => flowIn_all h)
  clear hW hN hbw hb hv hr zW t0 t1 hnv hnb
  by_cases h1 : st < 0
  · have q : decide (st < 0) = true := decide_eq_true h1
    clear h0
    go_enter Try.func4, Try.ntmps4
    go_upto_region 1 with fail
    rw [← HW.out, HN.out]
    clear HW
    go_wp2_with fail
    refine HC.mono ?_
    clear HC c0 c1 d0 d1
    rintro e w1 ⟨rfl, hb1⟩
    have HB1 : Hid (Below w.heap.size w w1) := HBW.out.trans (hb1.mono HBW.out.size)
    clear hb1 HFC
    go_wp2
    go_ret2
    exact ⟨rfl, HB1.out⟩
  · have h2 : 5000 < st := h0.resolve_left h1
    have q : decide (st < 0) = false := decide_eq_false h1
    have q2 : decide (5000 < st) = true := decide_eq_true h2
    clear h0
    go_enter Try.func4, Try.ntmps4
    go_upto_region 1 with fail
    rw [← HW.out, HN.out]
    clear HW
    go_wp2_with fail
    refine HC.mono ?_
    clear HC c0 c1 d0 d1
    rintro e w1 ⟨rfl, hb1⟩
    have HB1 : Hid (Below w.heap.size w w1) := HBW.out.trans (hb1.mono HBW.out.size)
    clear hb1 HFC
    go_wp2
    go_ret2
    exact ⟨rfl, HB1.out⟩

set_option maxRecDepth 8000 in
set_option maxHeartbeats 4000000 in
theorem sourceRun_err (f : Fn) (nv nb : Nat) (m0 m1 seed st r : Int) (av ab : Option Addr) (cv cb : Nat) (hr : flowE f m0 m1 (nb * nb + 1) = r) (h0 : r ≠ 0) (hnv : f.values.length = nv) (hnb : f.blocks.length = nb) (w : World) (hv : SlOf w 1 RInt (.slice av nv cv) f.values) (hb : SlOf w 3 (RBlk w) (.slice ab nb cb) f.blocks) :
    Calls Try.prog 5 #[.agg #[.slice av nv cv, .slice ab nb cb], .agg #[.int .i64 m0, .int .i64 m1], .int .i64 seed, .int .i64 st] w fun e w' => e = .returned (.tuple #[.slice none 0 0, .int .i64 r]) ∧ Below w.heap.size w w' := by
  obtain ⟨N, hN⟩ : ∃ N, w.heap.size = N := ⟨_, rfl⟩
  obtain ⟨W, hW⟩ : ∃ W, W = (w.alloc (.cells #[.slice av nv cv, .slice ab nb cb] 25)).alloc (.cells #[.int .i64 m0, .int .i64 m1] 28) := ⟨_, rfl⟩
  have hbw : Below w.heap.size w W := by rw [hW]; exact ((Below.refl _ _).alloc (Nat.le_refl _) _).alloc (by simp) _
  have zW : W.heap.size = N + 1 + 1 := by rw [hW, ← hN]; simp
  obtain ⟨t0, t1⟩ := two_at w #[.slice av nv cv, .slice ab nb cb] #[.int .i64 m0, .int .i64 m1] 25 28
  rw [← hW, hN] at t0 t1
  have c0 : W.cell? ⟨N, 0, none⟩ = some (.slice av nv cv) := t0 0
  have c1 : W.cell? ⟨N, 1, none⟩ = some (.slice ab nb cb) := t0 1
  have d0 : W.cell? ⟨N + 1, 0, none⟩ = some (.int .i64 m0) := t1 0
  have d1 : W.cell? ⟨N + 1, 1, none⟩ = some (.int .i64 m1) := t1 1
  have HW : Hid (W = (w.alloc (.cells #[.slice av nv cv, .slice ab nb cb] 25)).alloc (.cells #[.int .i64 m0, .int .i64 m1] 28)) := hW
  have HN : Hid (w.heap.size = N) := hN
  have HBW : Hid (Below w.heap.size w W) := hbw
  have HFC : Hid (∀ w', Below W.heap.size W w' → w'.cell? ⟨N, 0, none⟩ = some (.slice av nv cv) ∧ w'.cell? ⟨N, 1, none⟩ = some (.slice ab nb cb) ∧ N < w'.heap.size) := fun w' hh => ⟨(hh.cell (p := ⟨N, 0, none⟩) (by simp; omega)).trans (t0 0), (hh.cell (p := ⟨N, 1, none⟩) (by simp; omega)).trans (t0 1), by have := hh.size; omega⟩
  have HC := funcFault_is f nb nv av ab cv cb m0 m1 r hr W hnb hnv (hv.below hbw fun _ _ h => h) (hb.below hbw (RBlk.below hbw))
  have q : (r == 0) = false := by simpa using h0
  have q1 : (r != 0) = true := by simpa using h0
  clear hW hN hbw hb hv hr h0 zW t0 t1 hnv hnb
  go_enter Try.func5, Try.ntmps5
  go_upto_region 1 with fail
  rw [← HW.out, HN.out]
  clear HW
  go_wp2_with fail
  refine HC.mono ?_
  clear HC c0 c1 d0 d1
  rintro e w1 ⟨rfl, hb1⟩
  have HB1 : Hid (Below w.heap.size w w1) := HBW.out.trans (hb1.mono HBW.out.size)
  clear hb1 HFC
  go_wp2
  go_ret2
  exact ⟨rfl, HB1.out⟩

set_option maxRecDepth 8000 in
set_option maxHeartbeats 4000000 in
theorem sourceRun_rng (f : Fn) (nv nb : Nat) (m0 m1 seed st : Int) (av ab : Option Addr) (cv cb : Nat) (hr : flowE f m0 m1 (nb * nb + 1) = 0) (h0 : st < 0 ∨ 5000 < st) (hnv : f.values.length = nv) (hnb : f.blocks.length = nb) (w : World) (hv : SlOf w 1 RInt (.slice av nv cv) f.values) (hb : SlOf w 3 (RBlk w) (.slice ab nb cb) f.blocks) :
    Calls Try.prog 5 #[.agg #[.slice av nv cv, .slice ab nb cb], .agg #[.int .i64 m0, .int .i64 m1], .int .i64 seed, .int .i64 st] w fun e w' => e = .returned (.tuple #[.slice none 0 0, .int .i64 2]) ∧ Below w.heap.size w w' := by
  obtain ⟨N, hN⟩ : ∃ N, w.heap.size = N := ⟨_, rfl⟩
  obtain ⟨W, hW⟩ : ∃ W, W = (w.alloc (.cells #[.slice av nv cv, .slice ab nb cb] 25)).alloc (.cells #[.int .i64 m0, .int .i64 m1] 28) := ⟨_, rfl⟩
  have hbw : Below w.heap.size w W := by rw [hW]; exact ((Below.refl _ _).alloc (Nat.le_refl _) _).alloc (by simp) _
  have zW : W.heap.size = N + 1 + 1 := by rw [hW, ← hN]; simp
  obtain ⟨t0, t1⟩ := two_at w #[.slice av nv cv, .slice ab nb cb] #[.int .i64 m0, .int .i64 m1] 25 28
  rw [← hW, hN] at t0 t1
  have c0 : W.cell? ⟨N, 0, none⟩ = some (.slice av nv cv) := t0 0
  have c1 : W.cell? ⟨N, 1, none⟩ = some (.slice ab nb cb) := t0 1
  have d0 : W.cell? ⟨N + 1, 0, none⟩ = some (.int .i64 m0) := t1 0
  have d1 : W.cell? ⟨N + 1, 1, none⟩ = some (.int .i64 m1) := t1 1
  have HW : Hid (W = (w.alloc (.cells #[.slice av nv cv, .slice ab nb cb] 25)).alloc (.cells #[.int .i64 m0, .int .i64 m1] 28)) := hW
  have HN : Hid (w.heap.size = N) := hN
  have HBW : Hid (Below w.heap.size w W) := hbw
  have HFC : Hid (∀ w', Below W.heap.size W w' → w'.cell? ⟨N, 0, none⟩ = some (.slice av nv cv) ∧ w'.cell? ⟨N, 1, none⟩ = some (.slice ab nb cb) ∧ N < w'.heap.size) := fun w' hh => ⟨(hh.cell (p := ⟨N, 0, none⟩) (by simp; omega)).trans (t0 0), (hh.cell (p := ⟨N, 1, none⟩) (by simp; omega)).trans (t0 1), by have := hh.size; omega⟩
  have HC := funcFault_is f nb nv av ab cv cb m0 m1 0 hr W hnb hnv (hv.below hbw fun _ _ h => h) (hb.below hbw (RBlk.below hbw))
  have hin : inB st 0 5000 = false := by
    unfold inB
    rw [decide_eq_false_iff_not]
    omega
  clear hW hN hbw hb hv hr h0 zW t0 t1 hnv hnb
  go_enter Try.func5, Try.ntmps5
  go_upto_region 1 with fail
  rw [← HW.out, HN.out]
  clear HW
  go_wp2_with fail
  refine HC.mono ?_
  clear HC c0 c1 d0 d1
  rintro e w1 ⟨rfl, hb1⟩
  have HB1 : Hid (Below w.heap.size w w1) := HBW.out.trans (hb1.mono HBW.out.size)
  clear hb1 HFC
  go_wp2_with (go_at_call 10; refine (in_is _ _ _ false hin _).mono ?_; rintro e w1 ⟨rfl, rfl⟩)
  go_ret2
  exact ⟨rfl, HB1.out⟩

/-- What has been told so far reads as events. -/
theorem RkS.evs {wb : World} {B Y nv : Nat} {now : List Int} {a : Option Addr} {n c : Nat} {es : List (Evt × Value)} {w : World} (hk : RkS wb B Y nv now (.slice a n c) es w) (hn : n = es.length) (hfew : n ≤ longest) : SlOf w 4 (REv w) (.slice a n c) (es.map (·.1)) := by
  subst hn
  have h3 : SlOf w 4 (fun cs p => cs = cV p) (.slice a es.length c) es := own_sl (k := 4) cV (fun _ => rfl) (by decide) (fun _ => rfl) es hk.own hfew
  exact sl_map (R' := REv w) (fun p : Evt × Value => p.1) h3 fun p hp cs hcs => ⟨p.2, hcs, (hk.rd p hp).1⟩

set_option maxRecDepth 8000 in
set_option maxHeartbeats 16000000 in
theorem sourceRun_any (f : Fn) (nv nb steps : Nat) (m0 m1 seed : Int) (av ab : Option Addr) (cv cb : Nat) (hr : flowE f m0 m1 (nb * nb + 1) = 0) (hst : steps ≤ 5000) (hnv : f.values.length = nv) (hnb : f.blocks.length = nb) (w : World) (hv : SlOf w 1 RInt (.slice av nv cv) f.values) (hb : SlOf w 3 (RBlk w) (.slice ab nb cb) f.blocks) :
    Calls Try.prog 5 #[.agg #[.slice av nv cv, .slice ab nb cb], .agg #[.int .i64 m0, .int .i64 m1], .int .i64 seed, .int .i64 (steps : Int)] w fun e w' => ∃ a n c, n = (runM f.blocks nv seed steps).evs.length ∧ e = .returned (.tuple #[.slice a n c, .int .i64 0]) ∧ SlOf w' 4 (REv w') (.slice a n c) (runM f.blocks nv seed steps).evs ∧ Below w.heap.size w w' := by
  have hsh := flow_shapeR hr
  have hnb2 : nb ≤ 1000 := by have := (shape_in hsh).nb; omega
  have hnv2 : nv ≤ 1000 := by have := (shape_in hsh).nv; omega
  have hpos : 0 < nb := by have := (shape_in hsh).pos; omega
  have hfit : FitsR nv f.blocks := by rw [← hnv]; exact fits_of hsh
  obtain ⟨N, hN⟩ : ∃ N, w.heap.size = N := ⟨_, rfl⟩
  obtain ⟨W, hW⟩ : ∃ W, W = (w.alloc (.cells #[.slice av nv cv, .slice ab nb cb] 25)).alloc (.cells #[.int .i64 m0, .int .i64 m1] 28) := ⟨_, rfl⟩
  have hbw : Below w.heap.size w W := by rw [hW]; exact ((Below.refl _ _).alloc (Nat.le_refl _) _).alloc (by simp) _
  have zW : W.heap.size = N + 1 + 1 := by rw [hW, ← hN]; simp
  obtain ⟨t0, t1⟩ := two_at w #[.slice av nv cv, .slice ab nb cb] #[.int .i64 m0, .int .i64 m1] 25 28
  rw [← hW, hN] at t0 t1
  have c0 : W.cell? ⟨N, 0, none⟩ = some (.slice av nv cv) := t0 0
  have c1 : W.cell? ⟨N, 1, none⟩ = some (.slice ab nb cb) := t0 1
  have d0 : W.cell? ⟨N + 1, 0, none⟩ = some (.int .i64 m0) := t1 0
  have d1 : W.cell? ⟨N + 1, 1, none⟩ = some (.int .i64 m1) := t1 1
  have HW : Hid (W = (w.alloc (.cells #[.slice av nv cv, .slice ab nb cb] 25)).alloc (.cells #[.int .i64 m0, .int .i64 m1] 28)) := hW
  have HN : Hid (w.heap.size = N) := hN
  have HBW : Hid (Below w.heap.size w W) := hbw
  have HFC : Hid (∀ w', Below W.heap.size W w' → w'.cell? ⟨N, 0, none⟩ = some (.slice av nv cv) ∧ w'.cell? ⟨N, 1, none⟩ = some (.slice ab nb cb) ∧ N < w'.heap.size) := fun w' hh => ⟨(hh.cell (p := ⟨N, 0, none⟩) (by simp; omega)).trans (t0 0), (hh.cell (p := ⟨N, 1, none⟩) (by simp; omega)).trans (t0 1), by have := hh.size; omega⟩
  have HC := funcFault_is f nb nv av ab cv cb m0 m1 0 hr W hnb hnv (hv.below hbw fun _ _ h => h) (hb.below hbw (RBlk.below hbw))
  have hin : inB (steps : Int) 0 5000 = true := by
    unfold inB
    rw [decide_eq_true_iff]
    omega
  have HBS0 : Hid (SlOf W 3 (RBlk W) (.slice ab nb cb) f.blocks) := hb.below hbw (RBlk.below hbw)
  have HNB : Hid (f.blocks.length = nb) := hnb
  have HFT : Hid (FitsR nv f.blocks) := hfit
  generalize f.blocks = bs at *
  clear hW hN hbw hb hv hr hsh hfit zW t0 t1 hnv hnb
  go_enter Try.func5, Try.ntmps5
  go_upto_region 1 with fail
  rw [← HW.out, HN.out]
  clear HW
  go_wp2_with fail
  refine HC.mono ?_
  clear HC c0 c1 d0 d1
  rintro e w1 ⟨rfl, hb1⟩
  have HB1 : Hid (Below w.heap.size w w1) := HBW.out.trans (hb1.mono HBW.out.size)
  have HBS : Hid (SlOf w1 3 (RBlk w1) (.slice ab nb cb) bs ∧ bs.length = nb) := ⟨HBS0.out.below hb1 (RBlk.below hb1), HNB.out⟩
  have HF0 : Hid (∀ w', Below w1.heap.size w1 w' → w'.cell? ⟨N, 1, none⟩ = some (.slice ab nb cb) ∧ N < w'.heap.size) := fun w' hh => by
    obtain ⟨_, a, b⟩ := HFC.out _ (hb1.trans (hh.mono hb1.size))
    exact ⟨a, b⟩
  obtain ⟨c0, c1, lN⟩ := HFC.out _ hb1
  have hmk := make_nowR nv hnv2
  obtain ⟨Y, hY⟩ : ∃ Y, w1.heap.size = Y := ⟨_, rfl⟩
  obtain ⟨W7, hW7⟩ : ∃ W7, W7 = w1.alloc (.cells (madeCells #[.int .i64 0] nv) 3) := ⟨_, rfl⟩
  have b7 : Below w1.heap.size w1 W7 := by rw [hW7]; exact (Below.refl _ _).alloc (Nat.le_refl _) _
  have r7 : W7.rowIs Y 3 nv (nowF (List.replicate nv 0)) := by
    rw [hW7, ← hY]
    exact (World.rowIs_made w1 (.int .i64 0) nv 3).congr fun i hi => now_zero nv i
  have z7 : Y < W7.heap.size := r7.lt
  obtain ⟨B, hB⟩ : ∃ B, W7.heap.size = B := ⟨_, rfl⟩
  have HK0 : Hid (StR w1 B Y nv seed bs 0 0 (-1) (.slice none 0 0) (List.replicate nv 0) [] W7) := ⟨⟨r7, by simp, ⟨rfl, Or.inl ⟨rfl, rfl⟩⟩, (fun p hp => by cases hp), b7, by omega, by omega, by omega⟩, by rw [HNB.out]; exact hpos, Or.inl ⟨rfl, rfl⟩⟩
  have HW7 : Hid (W7 = w1.alloc (.cells (madeCells #[.int .i64 0] nv) 3)) := hW7
  have HYY : Hid (w1.heap.size = Y) := hY
  have hNw : N < w1.heap.size := lN
  clear hb1 HBS0 b7 r7 hW7 hY hB z7 HFC
  go_upto_region 2 with fail
  go_wp2_with (first | (go_at_call 10; refine (in_is _ _ _ true hin _).mono ?_; rintro e w1 ⟨rfl, rfl⟩) | fail)
  rw [← HW7.out, HYY.out]
  clear HW7 HYY hmk c0 c1 lN
  go_loopw [15, 13, 14, 11] (fun i bv pv ov wr => ∃ (n b : Nat) (pos : Int) (av2 : Option Addr) (nev cv2 : Nat) (now : List Int) (es : List (Evt × Value)), n ≤ steps ∧ i = .int .i64 n ∧ bv = .int .i64 (b : Int) ∧ pv = .int .i64 pos ∧ ov = .slice av2 nev cv2 ∧ Hid (nev = es.length ∧ StR w1 B Y nv seed bs n b pos (.slice av2 nev cv2) now es wr)) (fun i _ _ _ _ => steps - (intOf i).toNat)
  case atStart => exact ⟨0, 0, -1, none, 0, 0, _, _, Nat.zero_le _, rfl, rfl, rfl, rfl, rfl, HK0.out⟩
  case round =>
    clear HK0
    obtain ⟨n, b, pos, av2, nev, cv2, now, es, hn, rfl, rfl, rfl, rfl, HI⟩ := hrel
    have hev : ∀ wh, runM bs nv seed n = ⟨wh, now, es.map (·.1)⟩ → nev ≤ 5000 := fun wh h => by
      have h1 := run_le bs nv seed n
      rw [h] at h1
      simp only [List.length_map] at h1
      have := HI.out.1
      omega
    by_cases hlt : n < steps
    · have hb : b < nb := by have := HI.out.2.2.1; rw [HBS.out.2] at this; exact this
      have HKK : Hid (RkS w1 B Y nv now (.slice av2 nev cv2) es wr) := HI.out.2.1
      have HNE : Hid (es.length = nev) := HI.out.1.symm
      rcases HI.out.2.2.2 with ⟨hp, hrun⟩ | ⟨k, hp, hk, hrun⟩
      · subst hp
        have hnev := hev _ hrun
        have HRUN : Hid (runM bs nv seed n = ⟨.come b, now, es.map (·.1)⟩) := hrun
        clear hev hrun HI
        go_upto_block 1 with fail
        refine source_come N Y B nv nb cb n b nev cv2 seed w1 wr av2 ab now es bs HF0 hNw HBS HFT HKK HNE hnev hb hnv2 hnb2 HRUN _ _ _ _ _ _ _ _ _ _ _ _ _ _ _ _ _ _ _ _ _ _ _ _ _ _ _ _ _ _ _ _ _ _ _ _ _ _ _ _ _ _ _ _ _ _ _ _ _ _ _ _ _ _ _ _ _ _ _ _ _ _ _ _ _ _ _ _ _ _ _ _ _ _ _ _ _ _ _ _ _ _ _ _ _ _ _ _ _ _ _ _ _ _ _ _ _ _ _ _ _ _ _ _ _ _ _ _ _ _ _ _ _ _ _ _ _ _ _ _ _ _ _ _ _ _ _ _ _ _ _ _ _ _ _ _ _ _ _ _ _ _ _ _ _ _ _ _ _ _ _ _ _ _ _ _ _ _ _ _ _ _ _ _ _ _ _ _ _ _ _ _ _ _ _ _ _ _ _ _ _ _ _ _ _ _ _ _ _ _ _ ?_ ?_ ?_ _ (by kernel_rfl)
        · exact fun c a a' w h hd => And.intro (hd.trans (And.left h)) (And.right h)
        · show ∀ _, _
          intro av3 nev3 cv3 now3 es3 wz hn3 hk3 hrun3 b13 b14 b16 b17 b18 b19 b20 b21 b22 b23 b24 b25 b26 b49 b50 b51 b52 b53 b54 b55 b56 b57 b58 b59 b60 b61 b62 b63 b64 b65 b66 b67 b68 b69 b70 b71 b72 b73 b74 b75 b76 b77 b78 b79 b80 b81 b82 b83 b84 b85 b86 b87 b88 b89 b90 b91 b92 b93 b94 b95 b96 b97 b98 b99 b100 b101 b102 b103 b104 b105 b106 b107 b108 b109 b110 b111 b112 b113 b114 b115 b116 b117 b118 b119 b120 b121 b122 b123 b124 b125 b126 b127 b128 b129 b130 b131 b132 b133 b134 b135 b136 b137 b138 b139 b140 b141 b142 b143 b144 b145 b146 b147 b148 b149 b150 b151 b152 b153 b154 b155 b156 b157 b158 b159 b160 b161 b162 b163 b164 b165 b166 b167 b168 b169 b170 b171 b172 b173 b174 b175 b176 b177 b178 b179 b180 b181 b182 b183 b184 b185 b186 b187 b188 b189 b190 b191 b192 b193
          have hle3 : nev3 ≤ 5000 := by
            have h1 := run_le bs nv seed (n + 1)
            rw [hrun3] at h1
            simp only [List.length_map] at h1
            omega
          have HE : Hid (nev3 = (runM bs nv seed steps).evs.length ∧ SlOf wz 4 (REv wz) (.slice av3 nev3 cv3) (runM bs nv seed steps).evs ∧ Below w.heap.size w wz) := by
            have he : (runM bs nv seed steps).evs = es3.map (·.1) := by rw [evs_at bs nv seed steps (n + 1) (by omega) (by rw [hrun3]), hrun3]
            rw [he]
            exact ⟨by simp only [List.length_map]; exact hn3, hk3.evs hn3 (by unfold longest; omega), HB1.out.trans (hk3.low.mono HB1.out.size)⟩
          clear hn3 hk3 hrun3
          go_wp2
          go_ret2
          exact ⟨av3, nev3, cv3, HE.out.1, rfl, HE.out.2.1, HE.out.2.2⟩
        · intro av3 nev3 cv3 bq pos3 now3 es3 wz hn3 hst3 b16 b17 b18 b19 b20 b21 b22 b23 b24 b25 b26 b49 b50 b51 b52 b53 b54 b55 b56 b57 b58 b59 b60 b61 b62 b63 b64 b65 b66 b67 b68 b69 b70 b71 b72 b73 b74 b75 b76 b77 b78 b79 b80 b81 b82 b83 b84 b85 b86 b87 b88 b89 b90 b91 b92 b93 b94 b95 b96 b97 b98 b99 b100 b101 b102 b103 b104 b105 b106 b107 b108 b109 b110 b111 b112 b113 b114 b115 b116 b117 b118 b119 b120 b121 b122 b123 b124 b125 b126 b127 b128 b129 b130 b131 b132 b133 b134 b135 b136 b137 b138 b139 b140 b141 b142 b143 b144 b145 b146 b147 b148 b149 b150 b151 b152 b153 b154 b155 b156 b157 b158 b159 b160 b161 b162 b163 b164 b165 b166 b167 b168 b169 b170 b171 b172 b173 b174 b175 b176 b177 b178 b179 b180 b181 b182 b183 b184 b185 b186 b187 b188 b189 b190 b191 b192 b193
          have HN3 : Hid (nev3 = es3.length ∧ StR w1 B Y nv seed bs (n + 1) bq pos3 (.slice av3 nev3 cv3) now3 es3 wz) := ⟨hn3, hst3⟩
          clear hn3 hst3
          go_wp2
          go_roundw
          case rel => exact ⟨n + 1, bq, pos3, av3, nev3, cv3, now3, es3, by omega, by go_num, rfl, rfl, rfl, HN3⟩
          case measure => simp [intOf]; omega
      · subst hp
        have hnev := hev _ hrun
        have HRUN : Hid (runM bs nv seed n = ⟨.ins b k, now, es.map (·.1)⟩) := hrun
        have HKI : Hid (k < (bs.getD b emptyB).instrs.length) := hk
        clear hev hrun HI hk
        go_upto_block 1 with fail
        refine source_ins N Y B nv nb cb n b nev cv2 k seed w1 wr av2 ab now es bs HF0 hNw HBS HFT HKK HNE hnev hb hnv2 hnb2 HKI HRUN _ _ _ _ _ _ _ _ _ _ _ _ _ _ _ _ _ _ _ _ _ _ _ _ _ _ _ _ _ _ _ _ _ _ _ _ _ _ _ _ _ _ _ _ _ _ _ _ _ _ _ _ _ _ _ _ _ _ _ _ _ _ _ _ _ _ _ _ _ _ _ _ _ _ _ _ _ _ _ _ _ _ _ _ _ _ _ _ _ _ _ _ _ _ _ _ _ _ _ _ _ _ _ _ _ _ _ _ _ _ _ _ _ _ _ _ _ _ _ _ _ _ _ _ _ _ _ _ _ _ _ _ _ _ _ _ _ _ _ _ _ _ _ _ _ _ _ _ _ _ _ _ _ _ _ _ _ _ _ _ _ _ _ _ _ _ _ _ _ _ _ _ _ _ _ _ _ _ _ _ _ _ _ _ _ _ _ _ _ _ _ ?_ ?_ ?_ _ (by kernel_rfl)
        · exact fun c a a' w h hd => And.intro (hd.trans (And.left h)) (And.right h)
        · show ∀ _, _
          intro av3 nev3 cv3 now3 es3 wz hn3 hk3 hrun3 b13 b14 b16 b17 b18 b19 b20 b21 b22 b23 b24 b25 b26 b49 b50 b51 b52 b53 b54 b55 b56 b57 b58 b59 b60 b61 b62 b63 b64 b65 b66 b67 b68 b69 b70 b71 b72 b73 b74 b75 b76 b77 b78 b79 b80 b81 b82 b83 b84 b85 b86 b87 b88 b89 b90 b91 b92 b93 b94 b95 b96 b97 b98 b99 b100 b101 b102 b103 b104 b105 b106 b107 b108 b109 b110 b111 b112 b113 b114 b115 b116 b117 b118 b119 b120 b121 b122 b123 b124 b125 b126 b127 b128 b129 b130 b131 b132 b133 b134 b135 b136 b137 b138 b139 b140 b141 b142 b143 b144 b145 b146 b147 b148 b149 b150 b151 b152 b153 b154 b155 b156 b157 b158 b159 b160 b161 b162 b163 b164 b165 b166 b167 b168 b169 b170 b171 b172 b173 b174 b175 b176 b177 b178 b179 b180 b181 b182 b183 b184 b185 b186 b187 b188 b189 b190 b191 b192 b193
          have hle3 : nev3 ≤ 5000 := by
            have h1 := run_le bs nv seed (n + 1)
            rw [hrun3] at h1
            simp only [List.length_map] at h1
            omega
          have HE : Hid (nev3 = (runM bs nv seed steps).evs.length ∧ SlOf wz 4 (REv wz) (.slice av3 nev3 cv3) (runM bs nv seed steps).evs ∧ Below w.heap.size w wz) := by
            have he : (runM bs nv seed steps).evs = es3.map (·.1) := by rw [evs_at bs nv seed steps (n + 1) (by omega) (by rw [hrun3]), hrun3]
            rw [he]
            exact ⟨by simp only [List.length_map]; exact hn3, hk3.evs hn3 (by unfold longest; omega), HB1.out.trans (hk3.low.mono HB1.out.size)⟩
          clear hn3 hk3 hrun3
          go_wp2
          go_ret2
          exact ⟨av3, nev3, cv3, HE.out.1, rfl, HE.out.2.1, HE.out.2.2⟩
        · intro av3 nev3 cv3 bq pos3 now3 es3 wz hn3 hst3 b16 b17 b18 b19 b20 b21 b22 b23 b24 b25 b26 b49 b50 b51 b52 b53 b54 b55 b56 b57 b58 b59 b60 b61 b62 b63 b64 b65 b66 b67 b68 b69 b70 b71 b72 b73 b74 b75 b76 b77 b78 b79 b80 b81 b82 b83 b84 b85 b86 b87 b88 b89 b90 b91 b92 b93 b94 b95 b96 b97 b98 b99 b100 b101 b102 b103 b104 b105 b106 b107 b108 b109 b110 b111 b112 b113 b114 b115 b116 b117 b118 b119 b120 b121 b122 b123 b124 b125 b126 b127 b128 b129 b130 b131 b132 b133 b134 b135 b136 b137 b138 b139 b140 b141 b142 b143 b144 b145 b146 b147 b148 b149 b150 b151 b152 b153 b154 b155 b156 b157 b158 b159 b160 b161 b162 b163 b164 b165 b166 b167 b168 b169 b170 b171 b172 b173 b174 b175 b176 b177 b178 b179 b180 b181 b182 b183 b184 b185 b186 b187 b188 b189 b190 b191 b192 b193
          have HN3 : Hid (nev3 = es3.length ∧ StR w1 B Y nv seed bs (n + 1) bq pos3 (.slice av3 nev3 cv3) now3 es3 wz) := ⟨hn3, hst3⟩
          clear hn3 hst3
          go_wp2
          go_roundw
          case rel => exact ⟨n + 1, bq, pos3, av3, nev3, cv3, now3, es3, by omega, by go_num, rfl, rfl, rfl, HN3⟩
          case measure => simp [intOf]; omega
    · have hns : n = steps := by omega
      subst hns
      have hx : ∃ wh, runM bs nv seed n = ⟨wh, now, es.map (·.1)⟩ := by
        rcases HI.out.2.2.2 with ⟨_, h⟩ | ⟨k, _, _, h⟩
        · exact ⟨_, h⟩
        · exact ⟨_, h⟩
      have HE : Hid (nev = (runM bs nv seed n).evs.length ∧ SlOf wr 4 (REv wr) (.slice av2 nev cv2) (runM bs nv seed n).evs ∧ Below w.heap.size w wr) := by
        obtain ⟨wh, h⟩ := hx
        rw [h]
        have hne := hev _ h
        exact ⟨by simp only [List.length_map]; exact HI.out.1, HI.out.2.1.evs HI.out.1 (by unfold longest; omega), HB1.out.trans (HI.out.2.1.low.mono HB1.out.size)⟩
      clear hev hx HI
      go_wp2
      go_ret2
      exact ⟨av2, nev, cv2, HE.out.1, rfl, HE.out.2.1, HE.out.2.2⟩
end Go.Proofs.Ytmkloakahefjiaa
namespace Go.Proofs.Ytmkloakahefjiaa
open Go.RowKit
set_option linter.unusedVariables false

theorem sr_drewN {B : Nat} {a w : World} (h : Below B a w) (n : Nat) : Below B a (w.drewN n) := ⟨h.os, h.tape, h.output, h.size, h.block⟩
set_option maxHeartbeats 2000000 in
theorem ksame_true (l : List Int) (a b : Option Addr) (n c d : Nat) (w : World) (hn : l.length = n) (h1 : SlOf w 1 RInt (.slice a n c) l) (h2 : SlOf w 1 RInt (.slice b n d) l) :
    Calls Try.prog 13 #[.slice a n c, .slice b n d] w fun e w' => e = .returned (.bool true) ∧ Below w.heap.size w w' := by
  subst hn
  have lb : l.length ≤ longest := by
    obtain ⟨_, _, _, h⟩ := h1.out
    exact h
  unfold longest at lb
  have HA : Hid (SlOf w 1 RInt (.slice a l.length c) l) := h1
  have HB : Hid (SlOf w 1 RInt (.slice b l.length d) l) := h2
  clear h1 h2
  go_enter Try.func13, Try.ntmps13
  go_wp2_with fail
  go_loopw [5] (fun i wr => ∃ k : Nat, k ≤ l.length ∧ i = .int .i64 k ∧ Below w.heap.size w wr) (fun i _ => l.length - (intOf i).toNat)
  case atStart => exact ⟨0, Nat.zero_le _, rfl, Below.refl _ _⟩
  case round =>
    obtain ⟨k, hk, rfl, hbr⟩ := hrel
    by_cases hlt : k < l.length
    · obtain ⟨b1, o1, rfl, hb1, hc1⟩ := ru_at HA.out k hlt
      obtain ⟨b2, o2, rfl, hb2, hc2⟩ := ru_at HB.out k hlt
      have e1 := (hbr.cell (p := ⟨b1, o1 + k, none⟩) hb1).trans hc1
      have e2 := (hbr.cell (p := ⟨b2, o2 + k, none⟩) hb2).trans hc2
      clear hc1 hc2
      generalize l.getD k 0 = x at *
      go_wp2_with fail
      go_quiet (fail)
      go_wp2
      go_roundw
      case rel => exact ⟨k + 1, by omega, by go_num, sr_drewN hbr _⟩
      case measure => simp [intOf]; omega
    · go_wp2
      go_ret
      exact ⟨rfl, hbr⟩
theorem evt_at {w : World} {a : Option Addr} {n c : Nat} {l : List Evt} (h : SlOf w 4 (REv w) (.slice a n c) l) (k : Nat) (hk : k < l.length) : ∃ b off ar cr, a = some ⟨b, off, none⟩ ∧ b < w.heap.size ∧ w.cell? ⟨b, off + k * 4, none⟩ = some (.int .i64 l[k].block) ∧ w.cell? ⟨b, off + k * 4 + 1, none⟩ = some (.int .i64 l[k].place) ∧ w.cell? ⟨b, off + k * 4 + 2, none⟩ = some (.slice ar l[k].read.length cr) ∧ w.cell? ⟨b, off + k * 4 + 3, none⟩ = some (.int .i64 l[k].edge) ∧ SlOf w 1 RInt (.slice ar l[k].read.length cr) l[k].read := by
  obtain ⟨b, off, cs, h1, h2, ⟨vr, rfl, hr⟩, h4⟩ := h.at k hk
  obtain ⟨ar, cr, rfl, _⟩ := hr.out
  have c0 := h4 0 (by simp)
  have c1 := h4 1 (by simp)
  have c2 := h4 2 (by simp)
  have c3 := h4 3 (by simp)
  simp at c0 c1 c2 c3
  exact ⟨b, off, ar, cr, h1, block_lt c0, c0, c1, c2, c3, hr⟩
theorem sl_take {α : Type} {w : World} {m : Nat} {R : List Value → α → Prop} {a : Option Addr} {n cap : Nat} {l : List α} (h : SlOf w m R (.slice a n cap) l) (k : Nat) (hk : k ≤ l.length) (cap' : Nat) : SlOf w m R (.slice a k cap') (l.take k) := by
  obtain ⟨a', c', hv, hl, h⟩ := h
  simp only [Value.slice.injEq] at hv
  obtain ⟨rfl, _, _⟩ := hv
  refine ⟨a, cap', by rw [List.length_take, Nat.min_eq_left hk], by rw [List.length_take]; omega, ?_⟩
  by_cases e : l.take k = []
  · exact Or.inl e
  · rcases h with rfl | ⟨b, off, ha, h⟩
    · simp at e
    · refine Or.inr ⟨b, off, ha, fun i hi => ?_⟩
      rw [List.length_take] at hi
      obtain ⟨cs, h1, h2, h3⟩ := h i (by omega)
      exact ⟨cs, h1, by rw [List.getElem_take]; exact h2, h3⟩

set_option maxRecDepth 4000 in
set_option maxHeartbeats 8000000 in
theorem ksame_evs (l : List Evt) (a b : Option Addr) (n c d : Nat) (w : World) (hn : l.length = n) (h1 : SlOf w 4 (REv w) (.slice a n c) l) (h2 : SlOf w 4 (REv w) (.slice b n d) l) :
    Calls Try.prog 6 #[.slice a n c, .slice b n d] w fun e w' => e = .returned (.bool true) ∧ Below w.heap.size w w' := by
  have lb : n ≤ longest := by
    obtain ⟨_, _, _, h⟩ := h1.out
    omega
  unfold longest at lb
  have HA : Hid (SlOf w 4 (REv w) (.slice a n c) l ∧ l.length = n) := ⟨h1, hn⟩
  have HB : Hid (SlOf w 4 (REv w) (.slice b n d) l) := h2
  clear h1 h2 hn
  go_enter Try.func6, Try.ntmps6
  go_wp2_with fail
  go_loopw [5] (fun i wr => ∃ k : Nat, k ≤ n ∧ i = .int .i64 k ∧ Hid (Below w.heap.size w wr)) (fun i _ => n - (intOf i).toNat)
  case atStart => exact ⟨0, Nat.zero_le _, rfl, Below.refl _ _⟩
  case round =>
    obtain ⟨k, hk, rfl, HBR⟩ := hrel
    by_cases hlt : k < n
    · have hkl : k < l.length := by rw [HA.out.2]; exact hlt
      obtain ⟨b1, o1, ar, cr, rfl, lb1, p0, p1, p2, p3, pr⟩ := evt_at HA.out.1 k hkl
      obtain ⟨b2, o2, as2, cs2, rfl, lb2, q0, q1, q2, q3, qr⟩ := evt_at HB.out k hkl
      have hbr := HBR.out
      obtain ⟨nr, hnr⟩ : ∃ nr, (l[k]'hkl).read.length = nr := ⟨_, rfl⟩
      rw [hnr] at p2 q2 pr qr
      generalize l[k]'hkl = x at *
      have lW1 : b1 < wr.heap.size := Nat.lt_of_lt_of_le lb1 hbr.size
      have lW2 : b2 < wr.heap.size := Nat.lt_of_lt_of_le lb2 hbr.size
      have p0 := (hbr.cell (p := ⟨b1, _, none⟩) lb1).trans p0
      have p1 := (hbr.cell (p := ⟨b1, _, none⟩) lb1).trans p1
      have p2 := (hbr.cell (p := ⟨b1, _, none⟩) lb1).trans p2
      have p3 := (hbr.cell (p := ⟨b1, _, none⟩) lb1).trans p3
      have q0 := (hbr.cell (p := ⟨b2, _, none⟩) lb2).trans q0
      have q1 := (hbr.cell (p := ⟨b2, _, none⟩) lb2).trans q1
      have q2 := (hbr.cell (p := ⟨b2, _, none⟩) lb2).trans q2
      have q3 := (hbr.cell (p := ⟨b2, _, none⟩) lb2).trans q3
      have hd : Below w.heap.size w wr.drew := hbr.drew
      have HC := ksame_true x.read ar as2 nr cr cs2 wr.drew hnr (pr.below hd fun _ _ h => h) (qr.below hd fun _ _ h => h)
      have HSF : Hid (∀ w', Below wr.heap.size wr w' → (fun w' => w'.cell? ⟨b1, o1 + k * 4, none⟩ = some (.int .i64 x.block) ∧ w'.cell? ⟨b1, o1 + k * 4 + 1, none⟩ = some (.int .i64 x.place) ∧ w'.cell? ⟨b1, o1 + k * 4 + 2, none⟩ = some (.slice ar nr cr) ∧ w'.cell? ⟨b1, o1 + k * 4 + 3, none⟩ = some (.int .i64 x.edge) ∧ w'.cell? ⟨b2, o2 + k * 4, none⟩ = some (.int .i64 x.block) ∧ w'.cell? ⟨b2, o2 + k * 4 + 1, none⟩ = some (.int .i64 x.place) ∧ w'.cell? ⟨b2, o2 + k * 4 + 2, none⟩ = some (.slice as2 nr cs2) ∧ w'.cell? ⟨b2, o2 + k * 4 + 3, none⟩ = some (.int .i64 x.edge)) w') := fun w' hh => ⟨(hh.cell lW1).trans p0, (hh.cell lW1).trans p1, (hh.cell lW1).trans p2, (hh.cell lW1).trans p3, (hh.cell lW2).trans q0, (hh.cell lW2).trans q1, (hh.cell lW2).trans q2, (hh.cell lW2).trans q3⟩
      have hkn : k < n + 1 := by omega
      have wk : IntKind.i64.wrap (k : Int) = (k : Int) := by rw [IntKind.wrap_i64]; omega
      have E0 : (x.block == x.block) = true := by simp
      clear p0 p1 p2 p3 q0 q1 q2 q3 pr qr hd hbr hnr
      go_upto_region 6 with fail
      refine wp_region_X (fun w' => w'.cell? ⟨b1, o1 + k * 4, none⟩ = some (.int .i64 x.block) ∧ w'.cell? ⟨b1, o1 + k * 4 + 1, none⟩ = some (.int .i64 x.place) ∧ w'.cell? ⟨b1, o1 + k * 4 + 2, none⟩ = some (.slice ar nr cr) ∧ w'.cell? ⟨b1, o1 + k * 4 + 3, none⟩ = some (.int .i64 x.edge) ∧ w'.cell? ⟨b2, o2 + k * 4, none⟩ = some (.int .i64 x.block) ∧ w'.cell? ⟨b2, o2 + k * 4 + 1, none⟩ = some (.int .i64 x.place) ∧ w'.cell? ⟨b2, o2 + k * 4 + 2, none⟩ = some (.slice as2 nr cs2) ∧ w'.cell? ⟨b2, o2 + k * 4 + 3, none⟩ = some (.int .i64 x.edge)) 99 (by kernel_rfl) (HSF.out _ (Below.refl _ _).drew) (fun hHeld => ?_)
      refine wpXt (v := ?_) 0 rfl (by kernel_rfl) (fun _ _ _ h => h) (by rfl) ?_ hHeld ?_
      rotate_left
      · intro w' hSw
        go_simp <;> with_reducible rfl
      try simp only [Act.put, List.setIfInBounds_toArray, List.set_cons_zero, List.set_cons_succ]
      refine wpXt (v := ?_) 1 rfl (by kernel_rfl) (fun _ _ _ h => h) (by rfl) ?_ hHeld ?_
      rotate_left
      · intro w' hSw
        go_simp <;> with_reducible rfl
      try simp only [Act.put, List.setIfInBounds_toArray, List.set_cons_zero, List.set_cons_succ]
      refine wpXt (v := ?_) 2 rfl (by kernel_rfl) (fun _ _ _ h => h) (by rfl) ?_ hHeld ?_
      rotate_left
      · intro w' hSw
        go_simp <;> with_reducible rfl
      try simp only [Act.put, List.setIfInBounds_toArray, List.set_cons_zero, List.set_cons_succ]
      refine wpXt (v := ?_) 3 rfl (by kernel_rfl) (fun _ _ _ h => h) (by rfl) ?_ hHeld ?_
      rotate_left
      · intro w' hSw
        go_simp <;> with_reducible rfl
      try simp only [Act.put, List.setIfInBounds_toArray, List.set_cons_zero, List.set_cons_succ]
      refine wpXt (v := ?_) 4 rfl (by kernel_rfl) (fun _ _ _ h => h) (by rfl) ?_ hHeld ?_
      rotate_left
      · intro w' hSw
        go_simp <;> with_reducible rfl
      try simp only [Act.put, List.setIfInBounds_toArray, List.set_cons_zero, List.set_cons_succ]
      refine wpXt (v := ?_) 5 rfl (by kernel_rfl) (fun _ _ _ h => h) (by rfl) ?_ hHeld ?_
      rotate_left
      · intro w' hSw
        go_simp <;> with_reducible rfl
      try simp only [Act.put, List.setIfInBounds_toArray, List.set_cons_zero, List.set_cons_succ]
      refine wpXt (v := ?_) 6 rfl (by kernel_rfl) (fun _ _ _ h => h) (by rfl) ?_ hHeld ?_
      rotate_left
      · intro w' hSw
        go_simp <;> with_reducible rfl
      try simp only [Act.put, List.setIfInBounds_toArray, List.set_cons_zero, List.set_cons_succ]
      refine wpXt (v := ?_) 7 rfl (by kernel_rfl) (fun _ _ _ h => h) (by rfl) ?_ hHeld ?_
      rotate_left
      · intro w' hSw
        go_simp <;> with_reducible rfl
      try simp only [Act.put, List.setIfInBounds_toArray, List.set_cons_zero, List.set_cons_succ]
      refine wpXt (v := ?_) 8 rfl (by kernel_rfl) (fun _ _ _ h => h) (by rfl) ?_ hHeld ?_
      rotate_left
      · intro w' hSw
        go_simp <;> with_reducible rfl
      try simp only [Act.put, List.setIfInBounds_toArray, List.set_cons_zero, List.set_cons_succ]
      refine wpXt (v := ?_) 9 rfl (by kernel_rfl) (fun _ _ _ h => h) (by rfl) ?_ hHeld ?_
      rotate_left
      · intro w' hSw
        go_simp <;> with_reducible rfl
      try simp only [Act.put, List.setIfInBounds_toArray, List.set_cons_zero, List.set_cons_succ]
      refine wpXt (v := ?_) 10 rfl (by kernel_rfl) (fun _ _ _ h => h) (by rfl) ?_ hHeld ?_
      rotate_left
      · intro w' hSw
        go_simp <;> with_reducible rfl
      try simp only [Act.put, List.setIfInBounds_toArray, List.set_cons_zero, List.set_cons_succ]
      refine wpXt (v := ?_) 11 rfl (by kernel_rfl) (fun _ _ _ h => h) (by rfl) ?_ hHeld ?_
      rotate_left
      · intro w' hSw
        go_simp <;> with_reducible rfl
      try simp only [Act.put, List.setIfInBounds_toArray, List.set_cons_zero, List.set_cons_succ]
      refine wpXt (v := ?_) 12 rfl (by kernel_rfl) (fun _ _ _ h => h) (by rfl) ?_ hHeld ?_
      rotate_left
      · intro w' hSw
        go_simp <;> with_reducible rfl
      try simp only [Act.put, List.setIfInBounds_toArray, List.set_cons_zero, List.set_cons_succ]
      refine wpXt (v := ?_) 13 rfl (by kernel_rfl) (fun _ _ _ h => h) (by rfl) ?_ hHeld ?_
      rotate_left
      · intro w' hSw
        go_simp <;> with_reducible rfl
      try simp only [Act.put, List.setIfInBounds_toArray, List.set_cons_zero, List.set_cons_succ]
      refine wpXt (v := ?_) 14 rfl (by kernel_rfl) (fun _ _ _ h => h) (by rfl) ?_ hHeld ?_
      rotate_left
      · intro w' hSw
        go_simp <;> with_reducible rfl
      try simp only [Act.put, List.setIfInBounds_toArray, List.set_cons_zero, List.set_cons_succ]
      refine wpXt (v := ?_) 15 rfl (by kernel_rfl) (fun _ _ _ h => h) (by rfl) ?_ hHeld ?_
      rotate_left
      · intro w' hSw
        go_simp <;> with_reducible rfl
      try simp only [Act.put, List.setIfInBounds_toArray, List.set_cons_zero, List.set_cons_succ]
      refine wpXt (v := ?_) 16 rfl (by kernel_rfl) (fun _ _ _ h => h) (by rfl) ?_ hHeld ?_
      rotate_left
      · intro w' hSw
        go_simp <;> with_reducible rfl
      try simp only [Act.put, List.setIfInBounds_toArray, List.set_cons_zero, List.set_cons_succ]
      refine wpXt (v := ?_) 17 rfl (by kernel_rfl) (fun _ _ _ h => h) (by rfl) ?_ hHeld ?_
      rotate_left
      · intro w' hSw
        go_simp <;> with_reducible rfl
      try simp only [Act.put, List.setIfInBounds_toArray, List.set_cons_zero, List.set_cons_succ]
      refine wpXt (v := ?_) 18 rfl (by kernel_rfl) (fun _ _ _ h => h) (by rfl) ?_ hHeld ?_
      rotate_left
      · intro w' hSw
        go_simp <;> with_reducible rfl
      try simp only [Act.put, List.setIfInBounds_toArray, List.set_cons_zero, List.set_cons_succ]
      refine wpXt (v := ?_) 19 rfl (by kernel_rfl) (fun _ _ _ h => h) (by rfl) ?_ hHeld ?_
      rotate_left
      · intro w' hSw
        go_simp <;> with_reducible rfl
      try simp only [Act.put, List.setIfInBounds_toArray, List.set_cons_zero, List.set_cons_succ]
      refine wpXt (v := ?_) 20 rfl (by kernel_rfl) (fun _ _ _ h => h) (by rfl) ?_ hHeld ?_
      rotate_left
      · intro w' hSw
        go_simp <;> with_reducible rfl
      try simp only [Act.put, List.setIfInBounds_toArray, List.set_cons_zero, List.set_cons_succ]
      refine wpXt (v := ?_) 21 rfl (by kernel_rfl) (fun _ _ _ h => h) (by rfl) ?_ hHeld ?_
      rotate_left
      · intro w' hSw
        go_simp <;> with_reducible rfl
      try simp only [Act.put, List.setIfInBounds_toArray, List.set_cons_zero, List.set_cons_succ]
      refine wpXt (v := ?_) 22 rfl (by kernel_rfl) (fun _ _ _ h => h) (by rfl) ?_ hHeld ?_
      rotate_left
      · intro w' hSw
        go_simp <;> with_reducible rfl
      try simp only [Act.put, List.setIfInBounds_toArray, List.set_cons_zero, List.set_cons_succ]
      refine wpXt (v := ?_) 23 rfl (by kernel_rfl) (fun _ _ _ h => h) (by rfl) ?_ hHeld ?_
      rotate_left
      · intro w' hSw
        go_simp <;> with_reducible rfl
      try simp only [Act.put, List.setIfInBounds_toArray, List.set_cons_zero, List.set_cons_succ]
      refine wpXt (v := ?_) 24 rfl (by kernel_rfl) (fun _ _ _ h => h) (by rfl) ?_ hHeld ?_
      rotate_left
      · intro w' hSw
        go_simp <;> with_reducible rfl
      try simp only [Act.put, List.setIfInBounds_toArray, List.set_cons_zero, List.set_cons_succ]
      refine wpXt (v := ?_) 25 rfl (by kernel_rfl) (fun _ _ _ h => h) (by rfl) ?_ hHeld ?_
      rotate_left
      · intro w' hSw
        go_simp <;> with_reducible rfl
      try simp only [Act.put, List.setIfInBounds_toArray, List.set_cons_zero, List.set_cons_succ]
      refine wpXt (v := ?_) 26 rfl (by kernel_rfl) (fun _ _ _ h => h) (by rfl) ?_ hHeld ?_
      rotate_left
      · intro w' hSw
        go_simp <;> with_reducible rfl
      try simp only [Act.put, List.setIfInBounds_toArray, List.set_cons_zero, List.set_cons_succ]
      refine wpXt (v := ?_) 27 rfl (by kernel_rfl) (fun _ _ _ h => h) (by rfl) ?_ hHeld ?_
      rotate_left
      · intro w' hSw
        go_simp <;> with_reducible rfl
      try simp only [Act.put, List.setIfInBounds_toArray, List.set_cons_zero, List.set_cons_succ]
      refine wpXt (v := ?_) 28 rfl (by kernel_rfl) (fun _ _ _ h => h) (by rfl) ?_ hHeld ?_
      rotate_left
      · intro w' hSw
        go_simp <;> with_reducible rfl
      try simp only [Act.put, List.setIfInBounds_toArray, List.set_cons_zero, List.set_cons_succ]
      refine wpXt (v := ?_) 29 rfl (by kernel_rfl) (fun _ _ _ h => h) (by rfl) ?_ hHeld ?_
      rotate_left
      · intro w' hSw
        go_simp <;> with_reducible rfl
      try simp only [Act.put, List.setIfInBounds_toArray, List.set_cons_zero, List.set_cons_succ]
      refine wpXt (v := ?_) 30 rfl (by kernel_rfl) (fun _ _ _ h => h) (by rfl) ?_ hHeld ?_
      rotate_left
      · intro w' hSw
        go_simp <;> with_reducible rfl
      try simp only [Act.put, List.setIfInBounds_toArray, List.set_cons_zero, List.set_cons_succ]
      refine wpXt (v := ?_) 31 rfl (by kernel_rfl) (fun _ _ _ h => h) (by rfl) ?_ hHeld ?_
      rotate_left
      · intro w' hSw
        go_simp <;> with_reducible rfl
      try simp only [Act.put, List.setIfInBounds_toArray, List.set_cons_zero, List.set_cons_succ]
      refine wpXt (v := ?_) 32 rfl (by kernel_rfl) (fun _ _ _ h => h) (by rfl) ?_ hHeld ?_
      rotate_left
      · intro w' hSw
        go_simp <;> with_reducible rfl
      try simp only [Act.put, List.setIfInBounds_toArray, List.set_cons_zero, List.set_cons_succ]
      refine wpXt (v := ?_) 33 rfl (by kernel_rfl) (fun _ _ _ h => h) (by rfl) ?_ hHeld ?_
      rotate_left
      · intro w' hSw
        go_simp <;> with_reducible rfl
      try simp only [Act.put, List.setIfInBounds_toArray, List.set_cons_zero, List.set_cons_succ]
      refine wpXt (v := ?_) 34 rfl (by kernel_rfl) (fun _ _ _ h => h) (by rfl) ?_ hHeld ?_
      rotate_left
      · intro w' hSw
        go_simp <;> with_reducible rfl
      try simp only [Act.put, List.setIfInBounds_toArray, List.set_cons_zero, List.set_cons_succ]
      refine wpXt (v := ?_) 35 rfl (by kernel_rfl) (fun _ _ _ h => h) (by rfl) ?_ hHeld ?_
      rotate_left
      · intro w' hSw
        go_simp <;> with_reducible rfl
      try simp only [Act.put, List.setIfInBounds_toArray, List.set_cons_zero, List.set_cons_succ]
      refine wpXt (v := ?_) 36 rfl (by kernel_rfl) (fun _ _ _ h => h) (by rfl) ?_ hHeld ?_
      rotate_left
      · intro w' hSw
        go_simp <;> with_reducible rfl
      try simp only [Act.put, List.setIfInBounds_toArray, List.set_cons_zero, List.set_cons_succ]
      refine wpXt (v := ?_) 37 rfl (by kernel_rfl) (fun _ _ _ h => h) (by rfl) ?_ hHeld ?_
      rotate_left
      · intro w' hSw
        go_simp <;> with_reducible rfl
      try simp only [Act.put, List.setIfInBounds_toArray, List.set_cons_zero, List.set_cons_succ]
      refine wpXt (v := ?_) 38 rfl (by kernel_rfl) (fun _ _ _ h => h) (by rfl) ?_ hHeld ?_
      rotate_left
      · intro w' hSw
        go_simp <;> with_reducible rfl
      try simp only [Act.put, List.setIfInBounds_toArray, List.set_cons_zero, List.set_cons_succ]
      refine wpXt (v := ?_) 39 rfl (by kernel_rfl) (fun _ _ _ h => h) (by rfl) ?_ hHeld ?_
      rotate_left
      · intro w' hSw
        go_simp <;> with_reducible rfl
      try simp only [Act.put, List.setIfInBounds_toArray, List.set_cons_zero, List.set_cons_succ]
      refine wpXt (v := ?_) 40 rfl (by kernel_rfl) (fun _ _ _ h => h) (by rfl) ?_ hHeld ?_
      rotate_left
      · intro w' hSw
        go_simp <;> with_reducible rfl
      try simp only [Act.put, List.setIfInBounds_toArray, List.set_cons_zero, List.set_cons_succ]
      refine wpXt (v := ?_) 41 rfl (by kernel_rfl) (fun _ _ _ h => h) (by rfl) ?_ hHeld ?_
      rotate_left
      · intro w' hSw
        go_simp <;> with_reducible rfl
      try simp only [Act.put, List.setIfInBounds_toArray, List.set_cons_zero, List.set_cons_succ]
      refine wpXt (v := ?_) 42 rfl (by kernel_rfl) (fun _ _ _ h => h) (by rfl) ?_ hHeld ?_
      rotate_left
      · intro w' hSw
        go_simp <;> with_reducible rfl
      try simp only [Act.put, List.setIfInBounds_toArray, List.set_cons_zero, List.set_cons_succ]
      refine wpXt (v := ?_) 43 rfl (by kernel_rfl) (fun _ _ _ h => h) (by rfl) ?_ hHeld ?_
      rotate_left
      · intro w' hSw
        go_simp <;> with_reducible rfl
      try simp only [Act.put, List.setIfInBounds_toArray, List.set_cons_zero, List.set_cons_succ]
      refine wpXt (v := ?_) 44 rfl (by kernel_rfl) (fun _ _ _ h => h) (by rfl) ?_ hHeld ?_
      rotate_left
      · intro w' hSw
        go_simp <;> with_reducible rfl
      try simp only [Act.put, List.setIfInBounds_toArray, List.set_cons_zero, List.set_cons_succ]
      refine wpXt (v := ?_) 45 rfl (by kernel_rfl) (fun _ _ _ h => h) (by rfl) ?_ hHeld ?_
      rotate_left
      · intro w' hSw
        go_simp <;> with_reducible rfl
      try simp only [Act.put, List.setIfInBounds_toArray, List.set_cons_zero, List.set_cons_succ]
      refine wpXt (v := ?_) 46 rfl (by kernel_rfl) (fun _ _ _ h => h) (by rfl) ?_ hHeld ?_
      rotate_left
      · intro w' hSw
        go_simp <;> with_reducible rfl
      try simp only [Act.put, List.setIfInBounds_toArray, List.set_cons_zero, List.set_cons_succ]
      refine wpXt (v := ?_) 47 rfl (by kernel_rfl) (fun _ _ _ h => h) (by rfl) ?_ hHeld ?_
      rotate_left
      · intro w' hSw
        go_simp <;> with_reducible rfl
      try simp only [Act.put, List.setIfInBounds_toArray, List.set_cons_zero, List.set_cons_succ]
      refine wpXs 48 rfl (by kernel_rfl) (fun K hK => ?_)
      go_simp
      refine HC.mono ?_
      clear HC
      rintro e w3 ⟨rfl, hb3⟩
      have HB3 : Hid (Below wr.heap.size wr w3) := ((Below.refl _ _).drew).trans hb3
      clear hb3
      refine hK.out _ _ (HSF.out _ HB3.out) (fun hHeld => ?_)
      clear hK K
      try simp only [Act.put, List.setIfInBounds_toArray, List.set_cons_zero, List.set_cons_succ]
      refine wpXs 49 rfl (by kernel_rfl) (fun K hK => ?_)
      go_simp
      refine hK.out _ _ (HSF.out _ HB3.out) (fun hHeld => ?_)
      clear hK K
      try simp only [Act.put, List.setIfInBounds_toArray, List.set_cons_zero, List.set_cons_succ]
      refine wpXs 50 rfl (by kernel_rfl) (fun K hK => ?_)
      go_simp
      refine hK.out _ _ (HSF.out _ HB3.out) (fun hHeld => ?_)
      clear hK K
      try simp only [Act.put, List.setIfInBounds_toArray, List.set_cons_zero, List.set_cons_succ]
      refine wpAnyX_done (by kernel_rfl) ?_ _

      have HB4 : Hid (Below w.heap.size w w3) := HBR.out.trans (HB3.out.mono HBR.out.size)
      clear hHeld
      go_wp2
      go_roundw
      case rel => exact ⟨k + 1, by omega, by go_num, HB4⟩
      case measure => simp [intOf]; omega
    · have hbr := HBR.out
      clear HBR
      go_wp2
      go_ret
      exact ⟨rfl, hbr⟩
end Go.Proofs.Ytmkloakahefjiaa
