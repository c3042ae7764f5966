/-
  The contract of 'check' of order: which error a move by itself has.
-/
import Derived.Test.YtdlglinbjkaokabOrA
import Derived.Deep.DeepCutAuto
import Derived.Deep.CutBlock
namespace Go.Proofs.Ytdlglinbjkaokab
open Go.RowKit
set_option linter.unusedVariables false

def holdO (r0 r1 fr : Int) (p : Pl) : Bool := regB r0 r1 p || slotB fr p
def suitO (c : Int) (p : Pl) : Bool := decide (p.kind = 2) || decide (p.cls = c)
def chkE (r0 r1 fr : Int) (m : Mv) (c : Int) : Int := if c < 0 then 17 else if 2 ≤ c then 17 else if holdO r0 r1 fr m.src = false then 2 else if holdO r0 r1 fr m.dst = false then 2 else if suitO c m.src = false then 17 else if suitO c m.dst = false then 17 else 0
set_option maxHeartbeats 4000000 in
theorem hold_any (p : Pl) (r0 r1 fr : Int) (M FR : Nat) (w : World) (b : Bool) (hb : holdO r0 r1 fr p = b) (h0 : w.cell? ⟨M, 0, none⟩ = some (.int .i64 r0)) (h1 : w.cell? ⟨M, 1, none⟩ = some (.int .i64 r1)) (h2 : w.cell? ⟨FR, 0, none⟩ = some (.int .i64 fr)) :
    Calls Try.prog 15 #[.agg #[.int .i64 p.kind, .int .i64 p.cls, .int .i64 p.n], .pointer (some ⟨M, 0, none⟩), .pointer (some ⟨FR, 0, none⟩)] w fun e w' => e = .returned (.bool b) ∧ Below w.heap.size w w' := by
  obtain ⟨N, hN⟩ : ∃ N, w.heap.size = N := ⟨_, rfl⟩
  obtain ⟨W, hW⟩ : ∃ W, W = w.alloc (.cells #[.int .i64 p.kind, .int .i64 p.cls, .int .i64 p.n] 26) := ⟨_, rfl⟩
  have hbw : Below w.heap.size w W := by rw [hW]; exact (Below.refl _ _).alloc (Nat.le_refl _) _
  have t0 := topO w #[.int .i64 p.kind, .int .i64 p.cls, .int .i64 p.n] 26
  rw [← hW, hN] at t0
  have zW : N < W.heap.size := by rw [hW, ← hN]; simp
  have x0 := (hbw.cell (block_lt h0)).trans h0
  have x1 := (hbw.cell (block_lt h1)).trans h1
  have x2 := (hbw.cell (block_lt h2)).trans h2
  have p0 : W.cell? ⟨N, 0, none⟩ = some (.int .i64 p.kind) := t0 0
  have p1 : W.cell? ⟨N, 1, none⟩ = some (.int .i64 p.cls) := t0 1
  have p2 : W.cell? ⟨N, 2, none⟩ = some (.int .i64 p.n) := t0 2
  have HW : Hid (W = w.alloc (.cells #[.int .i64 p.kind, .int .i64 p.cls, .int .i64 p.n] 26)) := hW
  have HN : Hid (w.heap.size = N) := hN
  have HBW : Hid (Below w.heap.size w W) := hbw
  unfold holdO at hb
  clear hN hW hbw t0 h0 h1 h2
  cases hr : regB r0 r1 p
  · rw [hr, Bool.false_or] at hb
    have HC := isReg_is p r0 r1 false hr W
    have HC2 := fun W' => isSlot_is p fr b hb W'
    clear hb hr
    go_enter Try.func15, Try.ntmps15
    go_upto_region 1 with fail
    rw [← HW.out, HN.out]
    go_wp2_with (first | (go_at_call 16; refine HC.mono ?_; clear HC; rintro e w1 ⟨rfl, hb1⟩; have y0 := (hb1.cell (p := ⟨N, 0, none⟩) zW).trans p0; have y1 := (hb1.cell (p := ⟨N, 1, none⟩) zW).trans p1; have y2 := (hb1.cell (p := ⟨N, 2, none⟩) zW).trans p2; have y3 := (hb1.cell (block_lt x2)).trans x2) | (go_at_call 17; refine (HC2 _).mono ?_; clear HC2; rintro e w2 ⟨rfl, hb2⟩))
    go_ret
    exact ⟨rfl, HBW.out.trans ((hb1.trans (hb2.mono hb1.size)).mono HBW.out.size)⟩
  · rw [hr, Bool.true_or] at hb
    subst hb
    have HC := isReg_is p r0 r1 true hr W
    clear hr
    go_enter Try.func15, Try.ntmps15
    go_upto_region 1 with fail
    rw [← HW.out, HN.out]
    go_wp2_with (go_at_call 16; refine HC.mono ?_; clear HC; rintro e w1 ⟨rfl, hb1⟩)
    go_ret
    exact ⟨rfl, HBW.out.trans (hb1.mono HBW.out.size)⟩
set_option maxHeartbeats 4000000 in
theorem suit_any (p : Pl) (c : Int) (C : Nat) (w : World) (b : Bool) (hb : suitO c p = b) (h0 : w.cell? ⟨C, 0, none⟩ = some (.int .i64 c)) :
    Calls Try.prog 18 #[.agg #[.int .i64 p.kind, .int .i64 p.cls, .int .i64 p.n], .pointer (some ⟨C, 0, none⟩)] w fun e w' => e = .returned (.bool b) ∧ Below w.heap.size w w' := by
  have hbw : Below w.heap.size w (w.alloc (.cells #[.int .i64 p.kind, .int .i64 p.cls, .int .i64 p.n] 26)) := (Below.refl _ _).alloc (Nat.le_refl _) _
  have lC := block_lt h0
  unfold suitO at hb
  by_cases hk : p.kind = 2
  · have q : (p.kind == 2) = true := by simpa using hk
    have HH : Hid (true = b) := by show _ = _; rw [← hb]; simp [hk]
    clear hb hk
    go_enter Try.func18, Try.ntmps18
    go_wp2
    go_ret
    exact ⟨ret_bool HH.out, hbw⟩
  · have q : (p.kind == 2) = false := by simpa using hk
    have HH : Hid ((p.cls == c) = b) := by show _ = _; rw [← hb]; simp [hk]; rfl
    clear hb hk
    go_enter Try.func18, Try.ntmps18
    go_wp2
    go_ret
    exact ⟨ret_bool HH.out, hbw⟩
theorem fourO (w : World) (a b c d : Array Value) (ta tb tc td : TypeId) (W : World) (hW : W = (((w.alloc (.cells a ta)).alloc (.cells b tb)).alloc (.cells c tc)).alloc (.cells d td)) :
    (∀ i, W.cell? ⟨w.heap.size, i, none⟩ = a[i]?) ∧ (∀ i, W.cell? ⟨w.heap.size + 1, i, none⟩ = b[i]?) ∧ (∀ i, W.cell? ⟨w.heap.size + 1 + 1, i, none⟩ = c[i]?) ∧ (∀ i, W.cell? ⟨w.heap.size + 1 + 1 + 1, i, none⟩ = d[i]?) ∧ Below w.heap.size w W ∧ W.heap.size = w.heap.size + 1 + 1 + 1 + 1 := by
  obtain ⟨t0, t1, t2⟩ := threeO w a b c ta tb tc
  have z : (((w.alloc (.cells a ta)).alloc (.cells b tb)).alloc (.cells c tc)).heap.size = w.heap.size + 1 + 1 + 1 := by simp
  subst hW
  refine ⟨fun i => ?_, fun i => ?_, fun i => ?_, fun i => ?_, ?_, by simp⟩
  · rw [World.cell?_alloc_lt _ _ _ (by show w.heap.size < _; omega)]; exact t0 i
  · rw [World.cell?_alloc_lt _ _ _ (by show w.heap.size + 1 < _; omega)]; exact t1 i
  · rw [World.cell?_alloc_lt _ _ _ (by show w.heap.size + 1 + 1 < _; omega)]; exact t2 i
  · rw [← z]; exact topO _ d td i
  · exact ((((Below.refl _ _).alloc (Nat.le_refl _) _).alloc (by simp) _).alloc (by simp; omega) _).alloc (by simp; omega) _
set_option maxHeartbeats 8000000 in
theorem check_any (m : Mv) (r0 r1 fr c : Int) (w : World) :
    Calls Try.prog 10 #[.agg #[.int .i64 r0, .int .i64 r1], .agg #[.int .i64 m.src.kind, .int .i64 m.src.cls, .int .i64 m.src.n, .int .i64 m.dst.kind, .int .i64 m.dst.cls, .int .i64 m.dst.n], .int .i64 c, .int .i64 fr] w fun e w' => e = .returned (.int .i64 (chkE r0 r1 fr m c)) ∧ Below w.heap.size w w' := by
  obtain ⟨W, hW⟩ : ∃ W, W = (((w.alloc (.cells #[.int .i64 r0, .int .i64 r1] 35)).alloc (.cells #[.int .i64 m.src.kind, .int .i64 m.src.cls, .int .i64 m.src.n, .int .i64 m.dst.kind, .int .i64 m.dst.cls, .int .i64 m.dst.n] 29)).alloc (.cells #[.int .i64 c] 3)).alloc (.cells #[.int .i64 fr] 3) := ⟨_, rfl⟩
  obtain ⟨t0, t1, t2, t3, hbw, zW⟩ := fourO w #[.int .i64 r0, .int .i64 r1] #[.int .i64 m.src.kind, .int .i64 m.src.cls, .int .i64 m.src.n, .int .i64 m.dst.kind, .int .i64 m.dst.cls, .int .i64 m.dst.n] #[.int .i64 c] #[.int .i64 fr] 35 29 3 3 W hW
  obtain ⟨M, hM⟩ : ∃ M, w.heap.size = M := ⟨_, rfl⟩
  obtain ⟨V, hV⟩ : ∃ V, M + 1 = V := ⟨_, rfl⟩
  obtain ⟨C, hC⟩ : ∃ C, V + 1 = C := ⟨_, rfl⟩
  obtain ⟨FR, hF⟩ : ∃ FR, C + 1 = FR := ⟨_, rfl⟩
  rw [hM] at t0 t1 t2 t3 zW
  rw [hV] at t1 t2 t3 zW
  rw [hC] at t2 t3 zW
  rw [hF] at t3 zW
  have HX : Hid (∀ w', Below W.heap.size W w' → w'.cell? ⟨M, 0, none⟩ = some (.int .i64 r0) ∧ w'.cell? ⟨M, 1, none⟩ = some (.int .i64 r1) ∧ w'.cell? ⟨V, 0, none⟩ = some (.int .i64 m.src.kind) ∧ w'.cell? ⟨V, 1, none⟩ = some (.int .i64 m.src.cls) ∧ w'.cell? ⟨V, 2, none⟩ = some (.int .i64 m.src.n) ∧ w'.cell? ⟨V, 3, none⟩ = some (.int .i64 m.dst.kind) ∧ w'.cell? ⟨V, 4, none⟩ = some (.int .i64 m.dst.cls) ∧ w'.cell? ⟨V, 5, none⟩ = some (.int .i64 m.dst.n) ∧ w'.cell? ⟨C, 0, none⟩ = some (.int .i64 c) ∧ w'.cell? ⟨FR, 0, none⟩ = some (.int .i64 fr)) := fun w' hh =>
    ⟨(hh.cell (p := ⟨M, 0, none⟩) (by show M < _; omega)).trans (t0 0), (hh.cell (p := ⟨M, 1, none⟩) (by show M < _; omega)).trans (t0 1), (hh.cell (p := ⟨V, 0, none⟩) (by show V < _; omega)).trans (t1 0), (hh.cell (p := ⟨V, 1, none⟩) (by show V < _; omega)).trans (t1 1), (hh.cell (p := ⟨V, 2, none⟩) (by show V < _; omega)).trans (t1 2), (hh.cell (p := ⟨V, 3, none⟩) (by show V < _; omega)).trans (t1 3), (hh.cell (p := ⟨V, 4, none⟩) (by show V < _; omega)).trans (t1 4), (hh.cell (p := ⟨V, 5, none⟩) (by show V < _; omega)).trans (t1 5), (hh.cell (p := ⟨C, 0, none⟩) (by show C < _; omega)).trans (t2 0), (hh.cell (p := ⟨FR, 0, none⟩) (by show FR < _; omega)).trans (t3 0)⟩
  have HW : Hid (W = (((w.alloc (.cells #[.int .i64 r0, .int .i64 r1] 35)).alloc (.cells #[.int .i64 m.src.kind, .int .i64 m.src.cls, .int .i64 m.src.n, .int .i64 m.dst.kind, .int .i64 m.dst.cls, .int .i64 m.dst.n] 29)).alloc (.cells #[.int .i64 c] 3)).alloc (.cells #[.int .i64 fr] 3)) := hW
  have HN : Hid (w.heap.size = M ∧ M + 1 = V ∧ V + 1 = C ∧ C + 1 = FR) := ⟨hM, hV, hC, hF⟩
  have HBW : Hid (Below w.heap.size w W) := hbw
  obtain ⟨a0, a1, v0, v1, v2, v3, v4, v5, c0, f0⟩ := HX.out W (Below.refl _ _)
  clear hW t0 t1 t2 t3 hM hV hC hF hbw
  by_cases k0 : c < 0
  · have HH : Hid (17 = chkE r0 r1 fr m c) := by show _ = _; unfold chkE; rw [if_pos k0]
    go_enter Try.func10, Try.ntmps10
    go_upto_region 1 with fail
    rw [← HW.out, HN.out.1, HN.out.2.1, HN.out.2.2.1, HN.out.2.2.2]
    go_wp2
    go_ret
    exact ⟨ret_int HH.out, HBW.out⟩
  by_cases k1 : 2 ≤ c
  · have HH : Hid (17 = chkE r0 r1 fr m c) := by show _ = _; unfold chkE; rw [if_neg k0, if_pos k1]
    go_enter Try.func10, Try.ntmps10
    go_upto_region 1 with fail
    rw [← HW.out, HN.out.1, HN.out.2.1, HN.out.2.2.1, HN.out.2.2.2]
    go_wp2
    go_ret
    exact ⟨ret_int HH.out, HBW.out⟩
  cases b1 : holdO r0 r1 fr m.src
  · have HH : Hid (2 = chkE r0 r1 fr m c) := by show _ = _; unfold chkE; rw [if_neg k0, if_neg k1, if_pos b1]
    have C1 := hold_any m.src r0 r1 fr M FR W false b1 a0 a1 f0
    clear b1
    go_enter Try.func10, Try.ntmps10
    go_upto_region 4 with fail
    rw [← HW.out, HN.out.1, HN.out.2.1, HN.out.2.2.1, HN.out.2.2.2]
    go_wp2_with (go_at_call 15; refine C1.mono ?_; clear C1; rintro e w1 ⟨rfl, h1⟩)
    go_ret
    exact ⟨ret_int HH.out, HBW.out.trans (h1.mono HBW.out.size)⟩
  have C1 := hold_any m.src r0 r1 fr M FR W true b1 a0 a1 f0
  cases b2 : holdO r0 r1 fr m.dst
  · have HH : Hid (2 = chkE r0 r1 fr m c) := by show _ = _; unfold chkE; rw [if_neg k0, if_neg k1, if_neg (by rw [b1]; simp), if_pos b2]
    clear b1
    go_enter Try.func10, Try.ntmps10
    go_upto_region 4 with fail
    rw [← HW.out, HN.out.1, HN.out.2.1, HN.out.2.2.1, HN.out.2.2.2]
    go_wp2_with fail
    refine C1.mono ?_
    clear C1
    rintro e w1 ⟨rfl, h1⟩
    obtain ⟨a0', a1', v0', v1', v2', v3', v4', v5', c0', f0'⟩ := HX.out w1 h1
    have C2 := hold_any m.dst r0 r1 fr M FR w1 false b2 a0' a1' f0'
    clear b2
    go_wp2_with (go_at_call 15; refine C2.mono ?_; clear C2; rintro e w2 ⟨rfl, h2⟩)
    go_ret
    exact ⟨ret_int HH.out, HBW.out.trans ((h1.trans (h2.mono h1.size)).mono HBW.out.size)⟩
  have HH0 : Hid (chkE r0 r1 fr m c = if suitO c m.src = false then 17 else if suitO c m.dst = false then 17 else 0) := by show _ = _; unfold chkE; rw [if_neg k0, if_neg k1, if_neg (by rw [b1]; simp), if_neg (by rw [b2]; simp)]
  clear b1
  go_enter Try.func10, Try.ntmps10
  go_upto_region 4 with fail
  rw [← HW.out, HN.out.1, HN.out.2.1, HN.out.2.2.1, HN.out.2.2.2]
  go_wp2_with fail
  refine C1.mono ?_
  clear C1
  rintro e w1 ⟨rfl, h1⟩
  obtain ⟨a0', a1', v0', v1', v2', v3', v4', v5', c0', f0'⟩ := HX.out w1 h1
  have C2 := hold_any m.dst r0 r1 fr M FR w1 true b2 a0' a1' f0'
  clear b2
  go_wp2_with fail
  refine C2.mono ?_
  clear C2 a0' a1' v0' v1' v2' v3' v4' v5' c0' f0'
  rintro e w2 ⟨rfl, h2⟩
  have h12 := h1.trans (h2.mono h1.size)
  obtain ⟨a0', a1', v0', v1', v2', v3', v4', v5', c0', f0'⟩ := HX.out w2 h12
  cases b3 : suitO c m.src
  · have HH : Hid (17 = chkE r0 r1 fr m c) := by show _ = _; rw [HH0.out, if_pos b3]
    have C3 := suit_any m.src c C w2 false b3 c0'
    clear b3
    go_wp2_with (go_at_call 18; refine C3.mono ?_; clear C3; rintro e w3 ⟨rfl, h3⟩)
    go_ret
    exact ⟨ret_int HH.out, HBW.out.trans ((h12.trans (h3.mono h12.size)).mono HBW.out.size)⟩
  have C3 := suit_any m.src c C w2 true b3 c0'
  go_wp2_with fail
  refine C3.mono ?_
  clear C3
  rintro e w3 ⟨rfl, h3⟩
  have h13 := h12.trans (h3.mono h12.size)
  obtain ⟨a0'', a1'', v0'', v1'', v2'', v3'', v4'', v5'', c0'', f0''⟩ := HX.out w3 h13
  clear a0' a1' v0' v1' v2' v3' v4' v5' c0' f0'
  cases b4 : suitO c m.dst
  · have HH : Hid (17 = chkE r0 r1 fr m c) := by show _ = _; rw [HH0.out, if_neg (by rw [b3]; simp), if_pos b4]
    have C4 := suit_any m.dst c C w3 false b4 c0''
    clear b4 b3
    go_wp2_with (go_at_call 18; refine C4.mono ?_; clear C4; rintro e w4 ⟨rfl, h4⟩)
    go_ret
    exact ⟨ret_int HH.out, HBW.out.trans ((h13.trans (h4.mono h13.size)).mono HBW.out.size)⟩
  · have HH : Hid (0 = chkE r0 r1 fr m c) := by show _ = _; rw [HH0.out, if_neg (by rw [b3]; simp), if_neg (by rw [b4]; simp)]
    have C4 := suit_any m.dst c C w3 true b4 c0''
    clear b4 b3
    go_wp2_with (go_at_call 18; refine C4.mono ?_; clear C4; rintro e w4 ⟨rfl, h4⟩)
    go_ret
    exact ⟨ret_int HH.out, HBW.out.trans ((h13.trans (h4.mono h13.size)).mono HBW.out.size)⟩
end Go.Proofs.Ytdlglinbjkaokab
