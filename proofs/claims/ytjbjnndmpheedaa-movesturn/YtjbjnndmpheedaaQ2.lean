/-
  The state of a walk by places: its box, its slots, its junk; the contract of 'at' for any place that may be, of 'step' and of 'move'.
-/
import Derived.Test.YtjbjnndmpheedaaQ1
import Derived.Test.YtjbjnndmpheedaaM1
namespace Go.Proofs.Ytjbjnndmpheedaa
open Go.RowKit
set_option linter.unusedVariables false

/-- What places hold: registers (of both classes, their scratches behind them), slots, and the junk that is next. -/
structure Pm where
  reg : Nat → Int
  sl : Nat → Int
  nx : Nat
def regI (p : Pl) : Nat := p.cls.toNat * 11 + p.n.toNat
def getP (s : Pm) (p : Pl) : Int := if p.kind = 1 then s.reg (regI p) else s.sl p.n.toNat
def upR (f : Nat → Int) (i : Nat) (v : Int) : Nat → Int := fun j => if j = i then v else f j
def putP (s : Pm) (p : Pl) (v : Int) : Pm := if p.kind = 1 then { s with reg := upR s.reg (regI p) v } else { s with sl := upR s.sl p.n.toNat v }
def mvM (s : Pm) (m : Mv) : Pm := putP s m.dst (getP s m.src)
/-- A place that may be touched: a register or a scratch of eleven, a slot. -/
def PlOk (fr : Nat) (p : Pl) : Prop := (p.kind = 1 ∧ (p.cls = 0 ∨ p.cls = 1) ∧ 0 ≤ p.n ∧ p.n < 11) ∨ (p.kind = 2 ∧ 0 ≤ p.n ∧ p.n < (fr : Int))
/-- The walk's box: cells that stay, and those that turn. -/
def mwF (h : Nat → Value) (s : Pm) (left : Int) (ve : Value) : Nat → Value := fun q =>
  if q = 5 then .int .i64 left else if 6 ≤ q ∧ q < 28 then .int .i64 (s.reg (q - 6)) else if q = 30 then .int .i64 (s.nx : Int) else if q = 31 then ve else h q
structure MwS (wb : World) (X G fr : Nat) (h : Nat → Value) (s : Pm) (left : Int) (ve : Value) (w : World) : Prop where
  bx : w.rowIs X 88 32 (mwF h s left ve)
  sl : w.rowIs G 3 fr (fun i => .int .i64 (s.sl i))
  h28 : h 28 = .slice (some ⟨G, 0, none⟩) fr fr
  low : Below wb.heap.size wb w
  hX : wb.heap.size ≤ X
  hG : wb.heap.size ≤ G
  xg : X ≠ G
/-- The block and the cell of a place. -/
def adB (X G : Nat) (p : Pl) : Nat := if p.kind = 1 then X else G
def adO (p : Pl) : Nat := if p.kind = 1 then 6 + regI p else p.n.toNat
section
variable {wb : World} {X G fr : Nat} {h : Nat → Value} {s : Pm} {left : Int} {ve : Value} {w w' : World}
theorem MwS.below (k : MwS wb X G fr h s left ve w) (hb : Below w.heap.size w w') : MwS wb X G fr h s left ve w' :=
  ⟨k.bx.of_block (hb.block _ k.bx.lt), k.sl.of_block (hb.block _ k.sl.lt), k.h28, k.low.trans (hb.mono k.low.size), k.hX, k.hG, k.xg⟩
theorem regI_lt {p : Pl} (h1 : p.cls = 0 ∨ p.cls = 1) (h2 : 0 ≤ p.n) (h3 : p.n < 11) : regI p < 22 := by
  unfold regI
  omega
theorem MwS.get (k : MwS wb X G fr h s left ve w) {p : Pl} (hp : PlOk fr p) : w.cell? ⟨adB X G p, adO p, none⟩ = some (.int .i64 (getP s p)) ∧ w.frozen? ⟨adB X G p, adO p, none⟩ = false ∧ adB X G p < w.heap.size := by
  rcases hp with ⟨h1, h2, h3, h4⟩ | ⟨h1, h3, h4⟩
  · have hr := regI_lt h2 h3 h4
    unfold adB adO getP
    rw [if_pos h1, if_pos h1, if_pos h1]
    refine ⟨?_, k.bx.frozen _, k.bx.lt⟩
    have := k.bx.cell (i := 6 + regI p) (by omega)
    rw [this]
    unfold mwF
    rw [if_neg (by omega), if_pos (by omega), show 6 + regI p - 6 = regI p by omega]
  · unfold adB adO getP
    rw [if_neg (by omega), if_neg (by omega), if_neg (by omega)]
    exact ⟨k.sl.cell (by omega), k.sl.frozen _, k.sl.lt⟩
theorem MwS.put (k : MwS wb X G fr h s left ve w) {p : Pl} (hp : PlOk fr p) (v : Int) : MwS wb X G fr h (putP s p v) left ve (w.setCell ⟨adB X G p, adO p, none⟩ (.int .i64 v)) := by
  rcases hp with ⟨h1, h2, h3, h4⟩ | ⟨h1, h3, h4⟩
  · have hr := regI_lt h2 h3 h4
    unfold adB adO putP
    rw [if_pos h1, if_pos h1, if_pos h1]
    refine ⟨(k.bx.set _ _).congr fun i hi => ?_, k.sl.setOther (Ne.symm k.xg) _, k.h28, k.low.setCell k.hX _, k.hX, k.hG, k.xg⟩
    unfold mwF upR
    by_cases e : i = 6 + regI p
    · subst e
      rw [if_pos rfl, if_neg (by omega), if_pos (by omega), show 6 + regI p - 6 = regI p by omega]
      simp
    · rw [if_neg e]
      by_cases e5 : i = 5
      · rw [if_pos e5, if_pos e5]
      · rw [if_neg e5, if_neg e5]
        by_cases e6 : 6 ≤ i ∧ i < 28
        · rw [if_pos e6, if_pos e6]
          simp only
          rw [if_neg (by omega)]
        · rw [if_neg e6, if_neg e6]
  · unfold adB adO putP
    rw [if_neg (by omega), if_neg (by omega), if_neg (by omega)]
    refine ⟨k.bx.setOther k.xg _, (k.sl.set _ _).congr fun i hi => ?_, k.h28, k.low.setCell k.hG _, k.hX, k.hG, k.xg⟩
    unfold upR
    by_cases e : i = p.n.toNat <;> simp [e]
theorem MwS.gone (k : MwS wb X G fr h s left ve w) (left' : Int) : MwS wb X G fr h s left' ve (w.setCell ⟨X, 5, none⟩ (.int .i64 left')) := by
  refine ⟨(k.bx.set _ _).congr fun i hi => ?_, k.sl.setOther (Ne.symm k.xg) _, k.h28, k.low.setCell k.hX _, k.hX, k.hG, k.xg⟩
  unfold mwF
  by_cases e5 : i = 5
  · rw [if_pos e5, if_pos e5]
  · rw [if_neg e5, if_neg e5, if_neg e5]
end
/-- All but two blocks is as it was. -/
structure Kp (X G : Nat) (w w' : World) : Prop where
  size : w.heap.size ≤ w'.heap.size
  blk : ∀ q, q < w.heap.size → q ≠ X → q ≠ G → w'.heap[q]? = w.heap[q]?
theorem Kp.refl (X G : Nat) (w : World) : Kp X G w w := ⟨Nat.le_refl _, fun _ _ _ _ => rfl⟩
theorem Kp.trans {X G : Nat} {w w1 w2 : World} (h : Kp X G w w1) (k : Kp X G w1 w2) : Kp X G w w2 := ⟨Nat.le_trans h.size k.size, fun q h1 h2 h3 => (k.blk q (Nat.lt_of_lt_of_le h1 h.size) h2 h3).trans (h.blk q h1 h2 h3)⟩
theorem Kp.below {X G : Nat} {w w' : World} (h : Below w.heap.size w w') : Kp X G w w' := ⟨h.size, fun q h1 _ _ => h.block q h1⟩
theorem Kp.set {X G : Nat} {w : World} {b i : Nat} {v : Value} (hb : b = X ∨ b = G) : Kp X G w (w.setCell ⟨b, i, none⟩ v) := ⟨by simp [World.setCell], fun q _ h2 h3 => Below.heap_setCell _ _ _ _ (by show q ≠ b; rcases hb with e | e <;> rw [e] <;> assumption)⟩
theorem adB_or (X G : Nat) (p : Pl) : adB X G p = X ∨ adB X G p = G := by
  unfold adB
  split
  · exact Or.inl rfl
  · exact Or.inr rfl
theorem Kp.cell {X G : Nat} {w w' : World} {b o : Nat} {v : Value} (h : Kp X G w w') (h1 : b ≠ X) (h2 : b ≠ G) (hc : w.cell? ⟨b, o, none⟩ = some v) : w'.cell? ⟨b, o, none⟩ = some v :=
  (World.cell?_of_block (a := ⟨b, o, none⟩) (h.blk b (block_lt hc) h1 h2)).trans hc
theorem at_any {wb : World} {X G fr : Nat} {h : Nat → Value} {s : Pm} {left : Int} {ve : Value} {w : World} (k : MwS wb X G fr h s left ve w) (hfr : fr ≤ 1000) (p : Pl) (hp : PlOk fr p) (wz : World) (hz : Below w.heap.size w wz) :
    Calls Try.prog 62 #[.pointer (some ⟨X, 6, none⟩), .agg #[.int .i64 p.kind, .int .i64 p.cls, .int .i64 p.n]] wz fun e w' => e = .returned (.pointer (some ⟨adB X G p, adO p, none⟩)) ∧ Below wz.heap.size wz w' := by
  obtain ⟨kd, c, n⟩ := p
  rcases hp with ⟨h1, h2, h3, h4⟩ | ⟨h1, h3, h4⟩
  · simp only at h1 h2 h3 h4
    subst h1
    obtain ⟨m, rfl⟩ : ∃ m : Nat, n = (m : Int) := ⟨n.toNat, by omega⟩
    refine (at_reg X 6 m c h2 (by omega) wz).mono ?_
    rintro e w' ⟨rfl, hb⟩
    exact ⟨by simp [adB, adO, regI], hb⟩
  · simp only at h1 h3 h4
    subst h1
    obtain ⟨m, rfl⟩ : ∃ m : Nat, n = (m : Int) := ⟨n.toNat, by omega⟩
    have c28 : wz.cell? ⟨X, 6 + 22, none⟩ = some (.slice (some ⟨G, 0, none⟩) fr fr) := by
      refine (hz.cell k.bx.lt).trans ?_
      rw [k.bx.cell (i := 28) (by omega)]
      unfold mwF
      rw [if_neg (by omega), if_neg (by omega), if_neg (by omega), if_neg (by omega), k.h28]
    refine (at_slot X 6 m fr fr (some ⟨G, 0, none⟩) G 0 c rfl (by omega) hfr wz c28).mono ?_
    rintro e w' ⟨rfl, hb⟩
    exact ⟨by simp [adB, adO], hb⟩

set_option maxHeartbeats 4000000 in
theorem mstep_any {wb : World} {X G fr : Nat} {h : Nat → Value} {s : Pm} {left : Int} {ve : Value} {w : World} (k : MwS wb X G fr h s left ve w) (h0 : -1000000 ≤ left) (h1 : left ≤ 1000000) (r : Bool) (hr : decide (1 ≤ left) = r) :
    Calls Try.prog 42 #[.pointer (some ⟨X, 0, none⟩)] w fun e w' => e = .returned (.bool r) ∧ w' = w.setCell ⟨X, 5, none⟩ (.int .i64 (left - 1)) := by
  have c3 : w.cell? ⟨X, 5, none⟩ = some (.int .i64 left) := by
    rw [k.bx.cell (i := 5) (by omega)]
    rfl
  have z3 := k.bx.frozen 5
  have d3 : (w.setCell ⟨X, 5, none⟩ (.int .i64 (left - 1))).cell? ⟨X, 5, none⟩ = some (.int .i64 (left - 1)) := by
    rw [(k.gone (left - 1)).bx.cell (i := 5) (by omega)]
    rfl
  have HR : Hid (decide (1 ≤ left) = r) := hr
  have lX := k.bx.lt
  clear k hr
  go_enter Try.func42, Try.ntmps42
  go_upto_region 2 with fail
  obtain ⟨W, hW⟩ : ∃ W, W = w.setCell ⟨X, 5, none⟩ (.int .i64 (left - 1)) := ⟨_, rfl⟩
  rw [← hW] at d3 ⊢
  have HW : Hid (W = w.setCell ⟨X, 5, none⟩ (.int .i64 (left - 1))) := hW
  clear c3 z3 hW
  go_wp2
  go_ret
  exact ⟨ret_bool HR.out, HW.out⟩

set_option maxRecDepth 4000 in
set_option maxHeartbeats 8000000 in
theorem moves_any (wb : World) (X G fr n c : Nat) (h : Nat → Value) (s0 : Pm) (left : Int) (ve : Value) (am : Option Addr) (l : List Mv) (w : World) (k0 : MwS wb X G fr h s0 left ve w) (hfr : fr ≤ 1000) (hl : SlOf wb 6 RMv (.slice am n c) l) (hln : l.length = n) (hok : ∀ v ∈ l, PlOk fr v.src ∧ PlOk fr v.dst) :
    Calls Try.prog 43 #[.pointer (some ⟨X, 0, none⟩), .slice am n c] w fun e w' => e = .returned (.tuple #[]) ∧ MwS wb X G fr h (l.foldl mvM s0) left ve w' ∧ Kp X G w w' := by
  have HK0 : Hid (MwS wb X G fr h ((l.take 0).foldl mvM s0) left ve w ∧ Kp X G w w) := ⟨k0, Kp.refl _ _ _⟩
  have HL : Hid (SlOf wb 6 RMv (.slice am n c) l ∧ l.length = n) := ⟨hl, hln⟩
  have HO : Hid (∀ v ∈ l, PlOk fr v.src ∧ PlOk fr v.dst) := hok
  have ln : n ≤ 140737488355328 := by obtain ⟨_, _, _, hh⟩ := hl.out; rw [hln] at hh; exact hh
  clear k0 hl hln hok
  go_enter Try.func43, Try.ntmps43
  go_wp2_with fail
  go_loopw [8] (fun i wr => ∃ j : Nat, j ≤ n ∧ i = .int .i64 j ∧ Hid (MwS wb X G fr h ((l.take j).foldl mvM s0) left ve wr ∧ Kp X G w wr)) (fun i _ => n - (intOf i).toNat)
  case atStart => exact ⟨0, Nat.zero_le _, rfl, HK0.out⟩
  case round =>
    clear HK0
    obtain ⟨j, hj, rfl, HI⟩ := hrel
    by_cases hlt : j < n
    · have hjl : j < l.length := by rw [HL.out.2]; exact hlt
      have hji : (j : Int) < (n : Int) := by omega
      obtain ⟨bm, offm, rfl, hbm, d0, d1, d2, d3, d4, d5⟩ := mv_cell (HL.out.1.below HI.out.1.low fun _ _ h => h) j hjl
      have HOK : Hid (PlOk fr l[j].src ∧ PlOk fr l[j].dst) := HO.out _ (List.getElem_mem hjl)
      have HT : Hid ((l.take (j + 1)).foldl mvM s0 = mvM ((l.take j).foldl mvM s0) l[j]) := by
        show _ = _
        rw [List.take_succ_eq_append_getElem hjl, List.foldl_append]
        rfl
      generalize l[j] = v at *
      generalize (l.take j).foldl mvM s0 = s at *
      obtain ⟨W5, hW5⟩ : ∃ W5, W5 = wr.alloc (.cells #[.int .i64 v.src.kind, .int .i64 v.src.cls, .int .i64 v.src.n, .int .i64 v.dst.kind, .int .i64 v.dst.cls, .int .i64 v.dst.n] 48) := ⟨_, rfl⟩
      obtain ⟨Z, hZ⟩ : ∃ Z, wr.heap.size = Z := ⟨_, rfl⟩
      have b5 : Below wr.heap.size wr W5 := by rw [hW5]; exact (Below.refl _ _).alloc (Nat.le_refl _) _
      have t5 := top_at wr #[.int .i64 v.src.kind, .int .i64 v.src.cls, .int .i64 v.src.n, .int .i64 v.dst.kind, .int .i64 v.dst.cls, .int .i64 v.dst.n] 48
      rw [← hW5, hZ] at t5
      have lZ : Z < W5.heap.size := block_lt (t5 0)
      have o0 : W5.cell? ⟨Z, 0, none⟩ = some (.int .i64 v.src.kind) := t5 0
      have o1 : W5.cell? ⟨Z, 1, none⟩ = some (.int .i64 v.src.cls) := t5 1
      have o2 : W5.cell? ⟨Z, 2, none⟩ = some (.int .i64 v.src.n) := t5 2
      have o3 : W5.cell? ⟨Z, 3, none⟩ = some (.int .i64 v.dst.kind) := t5 3
      have o4 : W5.cell? ⟨Z, 4, none⟩ = some (.int .i64 v.dst.cls) := t5 4
      have o5 : W5.cell? ⟨Z, 5, none⟩ = some (.int .i64 v.dst.n) := t5 5
      have HSF : Hid (∀ w', Below W5.heap.size W5 w' → (fun w' => w'.cell? ⟨Z, 0, none⟩ = some (.int .i64 v.src.kind) ∧ w'.cell? ⟨Z, 1, none⟩ = some (.int .i64 v.src.cls) ∧ w'.cell? ⟨Z, 2, none⟩ = some (.int .i64 v.src.n) ∧ w'.cell? ⟨Z, 3, none⟩ = some (.int .i64 v.dst.kind) ∧ w'.cell? ⟨Z, 4, none⟩ = some (.int .i64 v.dst.cls) ∧ w'.cell? ⟨Z, 5, none⟩ = some (.int .i64 v.dst.n)) w') := fun w' hh => ⟨(hh.cell (p := ⟨Z, 0, none⟩) lZ).trans o0, (hh.cell (p := ⟨Z, 1, none⟩) lZ).trans o1, (hh.cell (p := ⟨Z, 2, none⟩) lZ).trans o2, (hh.cell (p := ⟨Z, 3, none⟩) lZ).trans o3, (hh.cell (p := ⟨Z, 4, none⟩) lZ).trans o4, (hh.cell (p := ⟨Z, 5, none⟩) lZ).trans o5⟩
      have HK5 : Hid (MwS wb X G fr h s left ve W5) := HI.out.1.below b5
      have HQ5 : Hid (Kp X G w W5) := HI.out.2.trans (Kp.below b5)
      have HC1 := at_any HK5.out hfr v.dst HOK.out.2 W5.drew (Below.refl _ _).drew
      have HW5 : Hid (W5 = wr.alloc (.cells #[.int .i64 v.src.kind, .int .i64 v.src.cls, .int .i64 v.src.n, .int .i64 v.dst.kind, .int .i64 v.dst.cls, .int .i64 v.dst.n] 48)) := hW5
      have HZZ : Hid (wr.heap.size = Z) := hZ
      clear hW5 hZ b5 t5 o0 o1 o2 o3 o4 o5 HI
      go_upto_region 3 with fail
      rw [← HW5.out, HZZ.out]
      clear HW5 HZZ d0 d1 d2 d3 d4 d5 hbm
      refine wp_region_X (fun w' => w'.cell? ⟨Z, 0, none⟩ = some (.int .i64 v.src.kind) ∧ w'.cell? ⟨Z, 1, none⟩ = some (.int .i64 v.src.cls) ∧ w'.cell? ⟨Z, 2, none⟩ = some (.int .i64 v.src.n) ∧ w'.cell? ⟨Z, 3, none⟩ = some (.int .i64 v.dst.kind) ∧ w'.cell? ⟨Z, 4, none⟩ = some (.int .i64 v.dst.cls) ∧ w'.cell? ⟨Z, 5, none⟩ = some (.int .i64 v.dst.n)) 15 (by kernel_rfl) (HSF.out _ (Below.refl _ _).drew) (fun hHeld => ?_)
      refine wpXt (v := ?_) 0 rfl (by kernel_rfl) (fun _ _ _ h => h) (by rfl) ?_ hHeld ?_
      rotate_left
      · intro w' hSw
        go_simp <;> with_reducible rfl
      try simp only [Act.put, List.setIfInBounds_toArray, List.set_cons_zero, List.set_cons_succ]
      refine wpXt (v := ?_) 1 rfl (by kernel_rfl) (fun _ _ _ h => h) (by rfl) ?_ hHeld ?_
      rotate_left
      · intro w' hSw
        go_simp <;> with_reducible rfl
      try simp only [Act.put, List.setIfInBounds_toArray, List.set_cons_zero, List.set_cons_succ]
      refine wpXt (v := ?_) 2 rfl (by kernel_rfl) (fun _ _ _ h => h) (by rfl) ?_ hHeld ?_
      rotate_left
      · intro w' hSw
        go_simp <;> with_reducible rfl
      try simp only [Act.put, List.setIfInBounds_toArray, List.set_cons_zero, List.set_cons_succ]
      refine wpXt (v := ?_) 3 rfl (by kernel_rfl) (fun _ _ _ h => h) (by rfl) ?_ hHeld ?_
      rotate_left
      · intro w' hSw
        go_simp <;> with_reducible rfl
      try simp only [Act.put, List.setIfInBounds_toArray, List.set_cons_zero, List.set_cons_succ]
      refine wpXt (v := ?_) 4 rfl (by kernel_rfl) (fun _ _ _ h => h) (by rfl) ?_ hHeld ?_
      rotate_left
      · intro w' hSw
        go_simp <;> with_reducible rfl
      try simp only [Act.put, List.setIfInBounds_toArray, List.set_cons_zero, List.set_cons_succ]
      refine wpXt (v := ?_) 6 rfl (by kernel_rfl) (fun _ _ _ h => h) (by rfl) ?_ hHeld ?_
      rotate_left
      · intro w' hSw
        go_simp <;> with_reducible rfl
      try simp only [Act.put, List.setIfInBounds_toArray, List.set_cons_zero, List.set_cons_succ]
      refine wpXt (v := ?_) 7 rfl (by kernel_rfl) (fun _ _ _ h => h) (by rfl) ?_ hHeld ?_
      rotate_left
      · intro w' hSw
        go_simp <;> with_reducible rfl
      try simp only [Act.put, List.setIfInBounds_toArray, List.set_cons_zero, List.set_cons_succ]
      refine wpXt (v := ?_) 8 rfl (by kernel_rfl) (fun _ _ _ h => h) (by rfl) ?_ hHeld ?_
      rotate_left
      · intro w' hSw
        go_simp <;> with_reducible rfl
      try simp only [Act.put, List.setIfInBounds_toArray, List.set_cons_zero, List.set_cons_succ]
      refine wpXt (v := ?_) 9 rfl (by kernel_rfl) (fun _ _ _ h => h) (by rfl) ?_ hHeld ?_
      rotate_left
      · intro w' hSw
        go_simp <;> with_reducible rfl
      try simp only [Act.put, List.setIfInBounds_toArray, List.set_cons_zero, List.set_cons_succ]
      refine wpXt (v := ?_) 10 rfl (by kernel_rfl) (fun _ _ _ h => h) (by rfl) ?_ hHeld ?_
      rotate_left
      · intro w' hSw
        go_simp <;> with_reducible rfl
      try simp only [Act.put, List.setIfInBounds_toArray, List.set_cons_zero, List.set_cons_succ]
      refine wpXs 5 rfl (by kernel_rfl) (fun K hK => ?_)
      go_simp
      refine HC1.mono ?_
      clear HC1
      rintro e w6 ⟨rfl, hb6⟩
      have HB6 : Hid (Below W5.heap.size W5 w6) := ((Below.refl _ _).drew).trans hb6
      clear hb6
      refine hK.out _ _ (HSF.out _ HB6.out) (fun hHeld => ?_)
      clear hK K
      try simp only [Act.put, List.setIfInBounds_toArray, List.set_cons_zero, List.set_cons_succ]
      refine wpXs 11 rfl (by kernel_rfl) (fun K hK => ?_)
      go_simp
      refine (at_any HK5.out hfr v.src HOK.out.1 w6 HB6.out).mono ?_
      rintro e w7 ⟨rfl, hb7⟩
      have HB7 : Hid (Below W5.heap.size W5 w7) := HB6.out.trans (hb7.mono HB6.out.size)
      have HK7 : Hid (MwS wb X G fr h s left ve w7) := HK5.out.below HB7.out
      clear hb7
      obtain ⟨g1, g2, g3⟩ := HK7.out.get HOK.out.1
      obtain ⟨p1, p2, p3⟩ := HK7.out.get HOK.out.2
      refine hK.out _ _ (HSF.out _ HB7.out) (fun hHeld => ?_)
      clear hK K
      try simp only [Act.put, List.setIfInBounds_toArray, List.set_cons_zero, List.set_cons_succ]
      refine wpXs 12 rfl (by kernel_rfl) (fun K hK => ?_)
      go_simp
      refine hK.out _ _ (HSF.out _ HB7.out) (fun hHeld => ?_)
      clear hK K
      try simp only [Act.put, List.setIfInBounds_toArray, List.set_cons_zero, List.set_cons_succ]
      refine wpXs 13 rfl (by kernel_rfl) (fun K hK => ?_)
      go_simp
      refine hK.out _ _ (HSF.out _ HB7.out) (fun hHeld => ?_)
      clear hK K
      try simp only [Act.put, List.setIfInBounds_toArray, List.set_cons_zero, List.set_cons_succ]
      refine wpXs 14 rfl (by kernel_rfl) (fun K hK => ?_)
      go_simp
      refine hK.out _ _ (HSF.out _ HB7.out) (fun hHeld => ?_)
      clear hK K
      try simp only [Act.put, List.setIfInBounds_toArray, List.set_cons_zero, List.set_cons_succ]
      refine wpXl 15 rfl (by kernel_rfl) rfl (by kernel_rfl) (fun K hK => ?_)
      go_simp
      refine hK.out _ _ ?_
      clear hK K

      have HR3 : Hid (MwS wb X G fr h ((l.take (j + 1)).foldl mvM s0) left ve (w7.setCell ⟨adB X G v.dst, adO v.dst, none⟩ (.int .i64 (getP s v.src))) ∧ Kp X G w (w7.setCell ⟨adB X G v.dst, adO v.dst, none⟩ (.int .i64 (getP s v.src)))) := by
        rw [HT.out]
        exact ⟨HK7.out.put HOK.out.2 _, (HQ5.out.trans (Kp.below HB7.out)).trans (Kp.set (adB_or X G v.dst))⟩
      clear g1 g2 g3 p1 p2 p3 HK7 HB7 HB6 HK5 HSF
      go_wp2
      go_roundw
      case rel => exact ⟨j + 1, by omega, by go_num, HR3⟩
      case measure => simp [intOf]; omega
    · have HE : Hid (MwS wb X G fr h (l.foldl mvM s0) left ve wr ∧ Kp X G w wr) := by
        have h1 := HI.out
        rw [List.take_of_length_le (by have := HL.out.2; omega)] at h1
        exact h1
      clear HI
      go_wp2
      go_end0
      exact ⟨rfl, HE.out⟩
end Go.Proofs.Ytjbjnndmpheedaa
