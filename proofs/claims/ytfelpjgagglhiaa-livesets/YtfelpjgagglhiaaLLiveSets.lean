/-
  The walk through 'LiveSets': live.Sets and the document's answer are one, for whatever function and machine.
-/
import Derived.Test.YtfelpjgagglhiaaY3
import Derived.Test.YtfelpjgagglhiaaLOpen
namespace Go.Proofs.Ytfelpjgagglhiaa
open Go.RowKit
set_option linter.unusedVariables false

set_option maxHeartbeats 2000000 in
theorem rsame_true (l : List Int) (a b : Option Addr) (n c d : Nat) (w : World) (hn : l.length = n) (h1 : SlOf w 1 RInt (.slice a n c) l) (h2 : SlOf w 1 RInt (.slice b n d) l) :
    Calls Try.prog 17 #[.slice a n c, .slice b n d] w fun e w' => e = .returned (.bool true) ∧ Below w.heap.size w w' := by
  subst hn
  have lb : l.length ≤ longest := by
    obtain ⟨_, _, _, h⟩ := h1.out
    exact h
  unfold longest at lb
  have HA : Hid (SlOf w 1 RInt (.slice a l.length c) l) := h1
  have HB : Hid (SlOf w 1 RInt (.slice b l.length d) l) := h2
  clear h1 h2
  go_enter Try.func17, Try.ntmps17
  go_wp2_with fail
  go_loopw [5] (fun i wr => ∃ k : Nat, k ≤ l.length ∧ i = .int .i64 k ∧ Below w.heap.size w wr) (fun i _ => l.length - (intOf i).toNat)
  case atStart => exact ⟨0, Nat.zero_le _, rfl, Below.refl _ _⟩
  case round =>
    obtain ⟨k, hk, rfl, hbr⟩ := hrel
    by_cases hlt : k < l.length
    · obtain ⟨b1, o1, rfl, hb1, hc1⟩ := ints_at HA.out k (by omega) (by omega)
      obtain ⟨b2, o2, rfl, hb2, hc2⟩ := ints_at HB.out k (by omega) (by omega)
      rw [Int.toNat_natCast] at hc1 hc2
      have e1 := (hbr.cell (p := ⟨b1, o1 + k, none⟩) hb1).trans hc1
      have e2 := (hbr.cell (p := ⟨b2, o2 + k, none⟩) hb2).trans hc2
      clear hc1 hc2
      generalize l.getD k 0 = x at *
      go_wp2_with fail
      go_quiet (fail)
      go_wp2
      go_roundw
      case rel => exact ⟨k + 1, by omega, by go_num, below_drewN hbr _⟩
      case measure => simp [intOf]; omega
    · go_wp2
      go_ret
      exact ⟨rfl, hbr⟩


theorem rrow_at {w : World} {a : Option Addr} {n c : Nat} {l : List (List Int)} (h : SlOf w 1 (RRow w) (.slice a n c) l) (k : Nat) (hk : k < l.length) : ∃ b off x y, a = some ⟨b, off, none⟩ ∧ b < w.heap.size ∧ w.cell? ⟨b, off + k, none⟩ = some (.slice x l[k].length y) ∧ SlOf w 1 RInt (.slice x l[k].length y) l[k] := by
  obtain ⟨b, off, cs, h1, h2, ⟨v, rfl, h3⟩, h4⟩ := h.at k hk
  obtain ⟨x, y, rfl, _⟩ := h3.out
  have c0 := h4 0 (by simp)
  simp only [Nat.mul_one, Nat.add_zero] at c0
  exact ⟨b, off, x, y, h1, block_lt c0, c0, h3⟩
set_option maxHeartbeats 4000000 in
theorem srows_true (l : List (List Int)) (a b : Option Addr) (n c d : Nat) (w : World) (hn : l.length = n) (h1 : SlOf w 1 (RRow w) (.slice a n c) l) (h2 : SlOf w 1 (RRow w) (.slice b n d) l) :
    Calls Try.prog 7 #[.slice a n c, .slice b n d] w fun e w' => e = .returned (.bool true) ∧ Below w.heap.size w w' := by
  subst hn
  have lb : l.length ≤ longest := by
    obtain ⟨_, _, _, h⟩ := h1.out
    exact h
  unfold longest at lb
  have HA : Hid (SlOf w 1 (RRow w) (.slice a l.length c) l) := h1
  have HB : Hid (SlOf w 1 (RRow w) (.slice b l.length d) l) := h2
  clear h1 h2
  go_enter Try.func7, Try.ntmps7
  go_wp2_with fail
  go_loopw [5] (fun i wr => ∃ k : Nat, k ≤ l.length ∧ i = .int .i64 k ∧ Below w.heap.size w wr) (fun i _ => l.length - (intOf i).toNat)
  case atStart => exact ⟨0, Nat.zero_le _, rfl, Below.refl _ _⟩
  case round =>
    obtain ⟨k, hk, rfl, hbr⟩ := hrel
    by_cases hlt : k < l.length
    · obtain ⟨b1, o1, x1, y1, rfl, l1, e1, s1⟩ := rrow_at (HA.out.below hbr (RRow.below hbr)) k hlt
      obtain ⟨b2, o2, x2, y2, rfl, l2, e2, s2⟩ := rrow_at (HB.out.below hbr (RRow.below hbr)) k hlt
      have hki : (k : Int) < (l.length : Int) := by omega
      have hd : Below wr.heap.size wr wr.drew := (Below.refl _ _).drew
      have HC := rsame_true l[k] x1 x2 l[k].length y1 y2 wr.drew rfl (s1.below hd fun _ _ h => h) (s2.below hd fun _ _ h => h)
      clear s1 s2 hd
      go_upto_region 6 with fail
      refine wp_region_X (fun w' => w'.cell? ⟨b1, o1 + k, none⟩ = some (.slice x1 l[k].length y1) ∧ w'.cell? ⟨b2, o2 + k, none⟩ = some (.slice x2 l[k].length y2)) 99 (by kernel_rfl) ⟨e1, e2⟩ (fun hHeld => ?_)
      refine wpXt (v := ?_) 0 rfl (by kernel_rfl) (fun _ _ _ h => h) (by rfl) ?_ hHeld ?_
      rotate_left
      · intro w' hSw
        go_simp <;> with_reducible rfl
      try simp only [Act.put, List.setIfInBounds_toArray, List.set_cons_zero, List.set_cons_succ]
      refine wpXt (v := ?_) 1 rfl (by kernel_rfl) (fun _ _ _ h => h) (by rfl) ?_ hHeld ?_
      rotate_left
      · intro w' hSw
        go_simp <;> with_reducible rfl
      try simp only [Act.put, List.setIfInBounds_toArray, List.set_cons_zero, List.set_cons_succ]
      refine wpXt (v := ?_) 2 rfl (by kernel_rfl) (fun _ _ _ h => h) (by rfl) ?_ hHeld ?_
      rotate_left
      · intro w' hSw
        go_simp <;> with_reducible rfl
      try simp only [Act.put, List.setIfInBounds_toArray, List.set_cons_zero, List.set_cons_succ]
      refine wpXt (v := ?_) 3 rfl (by kernel_rfl) (fun _ _ _ h => h) (by rfl) ?_ hHeld ?_
      rotate_left
      · intro w' hSw
        go_simp <;> with_reducible rfl
      try simp only [Act.put, List.setIfInBounds_toArray, List.set_cons_zero, List.set_cons_succ]
      refine wpXt (v := ?_) 4 rfl (by kernel_rfl) (fun _ _ _ h => h) (by rfl) ?_ hHeld ?_
      rotate_left
      · intro w' hSw
        go_simp <;> with_reducible rfl
      try simp only [Act.put, List.setIfInBounds_toArray, List.set_cons_zero, List.set_cons_succ]
      refine wpXt (v := ?_) 5 rfl (by kernel_rfl) (fun _ _ _ h => h) (by rfl) ?_ hHeld ?_
      rotate_left
      · intro w' hSw
        go_simp <;> with_reducible rfl
      try simp only [Act.put, List.setIfInBounds_toArray, List.set_cons_zero, List.set_cons_succ]
      refine wpXt (v := ?_) 6 rfl (by kernel_rfl) (fun _ _ _ h => h) (by rfl) ?_ hHeld ?_
      rotate_left
      · intro w' hSw
        go_simp <;> with_reducible rfl
      try simp only [Act.put, List.setIfInBounds_toArray, List.set_cons_zero, List.set_cons_succ]
      refine wpXt (v := ?_) 7 rfl (by kernel_rfl) (fun _ _ _ h => h) (by rfl) ?_ hHeld ?_
      rotate_left
      · intro w' hSw
        go_simp <;> with_reducible rfl
      try simp only [Act.put, List.setIfInBounds_toArray, List.set_cons_zero, List.set_cons_succ]
      refine wpXs 8 rfl (by kernel_rfl) (fun K hK => ?_)
      go_simp
      refine HC.mono ?_
      clear HC
      rintro e w3 ⟨rfl, hb3⟩
      have hb4 : Below wr.heap.size wr w3 := ((Below.refl _ _).drew).trans hb3
      have HB4 : Hid (Below w.heap.size w w3) := hbr.trans (hb4.mono hbr.size)
      have f1 := (hb4.cell (p := ⟨b1, o1 + k, none⟩) l1).trans e1
      have f2 := (hb4.cell (p := ⟨b2, o2 + k, none⟩) l2).trans e2
      clear hb3 hb4
      refine hK.out _ _ ⟨f1, f2⟩ (fun hHeld => ?_)
      clear hK K
      try simp only [Act.put, List.setIfInBounds_toArray, List.set_cons_zero, List.set_cons_succ]
      refine wpXs 9 rfl (by kernel_rfl) (fun K hK => ?_)
      go_simp
      refine hK.out _ _ ⟨f1, f2⟩ (fun hHeld => ?_)
      clear hK K
      try simp only [Act.put, List.setIfInBounds_toArray, List.set_cons_zero, List.set_cons_succ]
      refine wpAnyX_done (by kernel_rfl) ?_ _

      clear f1 f2
      go_wp2
      go_roundw
      case rel => exact ⟨k + 1, by omega, by go_num, HB4.out⟩
      case measure => simp [intOf]; omega
    · go_wp2
      go_ret
      exact ⟨rfl, hbr⟩

set_option maxHeartbeats 4000000 in
theorem sets_err (f : Fn) (n nv : Nat) (m0 m1 r : Int) (av ab : Option Addr) (cv cb : Nat) (hr : flowE f m0 m1 (n * n + 1) = r) (h0 : r ≠ 0) (hnb : f.blocks.length = n) (hnv : f.values.length = nv) (w : World) (hv : SlOf w 1 RInt (.slice av nv cv) f.values) (hb : SlOf w 3 (RBlk w) (.slice ab n cb) f.blocks) :
    Calls Try.prog 5 #[.agg #[.slice av nv cv, .slice ab n cb], .agg #[.int .i64 m0, .int .i64 m1]] w fun e w' => e = .returned (.tuple #[.agg #[.slice none 0 0, .slice none 0 0], .int .i64 r]) ∧ Below w.heap.size w w' := by
  obtain ⟨W, hW⟩ : ∃ W, W = ((w.alloc (.cells #[.slice av nv cv, .slice ab n cb] 25)).alloc (.cells #[.int .i64 m0, .int .i64 m1] 28)).alloc (.cells #[.slice none 0 0, .slice none 0 0] 31) := ⟨_, rfl⟩
  obtain ⟨N, hN⟩ : ∃ N, w.heap.size = N := ⟨_, rfl⟩
  have hbw : Below w.heap.size w W := by rw [hW]; exact (((Below.refl _ _).alloc (Nat.le_refl _) _).alloc (by simp) _).alloc (by simp; omega) _
  have zW : W.heap.size = N + 1 + 1 + 1 := by rw [hW, ← hN]; simp
  obtain ⟨t0, t1, t2⟩ := three_at w #[.slice av nv cv, .slice ab n cb] #[.int .i64 m0, .int .i64 m1] #[.slice none 0 0, .slice none 0 0] 25 28 31
  rw [← hW, hN] at t0 t1 t2
  have c0 : W.cell? ⟨N, 0, none⟩ = some (.slice av nv cv) := t0 0
  have c1 : W.cell? ⟨N, 1, none⟩ = some (.slice ab n cb) := t0 1
  have d0 : W.cell? ⟨N + 1, 0, none⟩ = some (.int .i64 m0) := t1 0
  have d1 : W.cell? ⟨N + 1, 1, none⟩ = some (.int .i64 m1) := t1 1
  have rF : W.rowIs N 25 2 (fun q => if q = 0 then .slice av nv cv else .slice ab n cb) := by
    have h := World.rowIs_alloc w #[.slice av nv cv, .slice ab n cb] 25 (fun q => if q = 0 then .slice av nv cv else .slice ab n cb) fun i hi => by
      simp at hi
      match i, hi with | 0, _ => rfl | 1, _ => rfl
    rw [hN] at h
    rw [hW]
    exact (h.alloc _).alloc _
  have rR : W.rowIs (N + 1 + 1) 31 2 (fun _ => .slice none 0 0) := by
    have h := World.rowIs_alloc ((w.alloc (.cells #[.slice av nv cv, .slice ab n cb] 25)).alloc (.cells #[.int .i64 m0, .int .i64 m1] 28)) #[.slice none 0 0, .slice none 0 0] 31 (fun _ => .slice none 0 0) fun i hi => by
      simp at hi
      match i, hi with | 0, _ => rfl | 1, _ => rfl
    have e : ((w.alloc (.cells #[.slice av nv cv, .slice ab n cb] 25)).alloc (.cells #[.int .i64 m0, .int .i64 m1] 28)).heap.size = N + 1 + 1 := by simp [hN]
    rw [e] at h
    rw [hW]
    exact h
  have HW : Hid (W = ((w.alloc (.cells #[.slice av nv cv, .slice ab n cb] 25)).alloc (.cells #[.int .i64 m0, .int .i64 m1] 28)).alloc (.cells #[.slice none 0 0, .slice none 0 0] 31)) := hW
  have HN : Hid (w.heap.size = N) := hN
  have HBW : Hid (Below w.heap.size w W) := hbw
  have HC := flowCheck_iy f _ nv n m0 m1 av ab cv cb r hr hnv hnb W (hv.below hbw fun _ _ h => h) (hb.below hbw (RBlk.below hbw)) (fun h => by rw [← hnb]; exact flowIn_all h)
  have q1 : (r != 0) = true := by simpa using h0
  have HRR : Hid (W.rowIs (N + 1 + 1) 31 2 (fun _ => .slice none 0 0) ∧ N + 1 + 1 < W.heap.size) := ⟨rR, by omega⟩
  clear hW hN hbw hb hv hr h0 t0 t1 t2 hnv hnb rF rR zW
  go_enter Try.func5, Try.ntmps5
  go_upto_region 1 with fail
  rw [← HW.out, HN.out]
  clear HW
  go_wp2_with fail
  refine HC.mono ?_
  clear HC c0 c1 d0 d1
  rintro e w1 ⟨rfl, hb1⟩
  have HB1 : Hid (Below w.heap.size w w1) := HBW.out.trans (hb1.mono HBW.out.size)
  have r1 := HRR.out.1.of_block (hb1.block _ HRR.out.2)
  have s0 := r1.cell (i := 0) (by omega)
  have s1 := r1.cell (i := 1) (by omega)
  have z0 := r1.frozen 0
  have z1 := r1.frozen 1
  have lR := r1.lt
  have HF : Hid (Below w.heap.size w ((w1.setCell ⟨N + 1 + 1, 0, none⟩ (.slice none 0 0)).setCell ⟨N + 1 + 1, 1, none⟩ (.slice none 0 0))) := (HB1.out.setCell (by rw [HN.out]; simp; omega) _).setCell (by rw [HN.out]; simp; omega) _
  have rr : ((w1.setCell ⟨N + 1 + 1, 0, none⟩ (.slice none 0 0)).setCell ⟨N + 1 + 1, 1, none⟩ (.slice none 0 0)).rowIs (N + 1 + 1) 31 2 (fun _ => .slice none 0 0) := ((r1.set 0 _).set 1 _).congr fun i hi => by split <;> (try split) <;> rfl
  have s0' := rr.cell (i := 0) (by omega)
  have s1' := rr.cell (i := 1) (by omega)
  clear hb1 r1 rr
  go_wp2
  refine bodyPost_ret (v := .tuple #[.agg #[.slice none 0 0, .slice none 0 0], .int .i64 r]) (by simp [results, Try.results5, go_sem, s0', s1']) rfl ⟨rfl, HF.out⟩

/-- What both answer. -/
def SeAns (f : Fn) (m0 m1 : Int) (e : Int) (l1 l2 : List (List Int)) : Prop :=
  (flowE f m0 m1 (f.blocks.length * f.blocks.length + 1) ≠ 0 ∧ e = flowE f m0 m1 (f.blocks.length * f.blocks.length + 1) ∧ l1 = [] ∧ l2 = []) ∨
  (flowE f m0 m1 (f.blocks.length * f.blocks.length + 1) = 0 ∧ e = 0 ∧ ∃ I O, Told3 f.blocks f.values.length I O ∧ l1 = ((List.range f.blocks.length).map fun b => rowL f.values.length (I b)) ∧ l2 = ((List.range f.blocks.length).map fun b => rowL f.values.length (O b)))
theorem sets_all (f : Fn) (m0 m1 : Int) (av ab : Option Addr) (cv cb : Nat) (w : World) (hv : SlOf w 1 RInt (.slice av f.values.length cv) f.values) (hb : SlOf w 3 (RBlk w) (.slice ab f.blocks.length cb) f.blocks) :
    Calls Try.prog 5 #[.agg #[.slice av f.values.length cv, .slice ab f.blocks.length cb], .agg #[.int .i64 m0, .int .i64 m1]] w fun x w' => ∃ e l1 l2 a1 a2 n c1 c2, SeAns f m0 m1 e l1 l2 ∧ l1.length = n ∧ l2.length = n ∧ x = .returned (.tuple #[.agg #[.slice a1 n c1, .slice a2 n c2], .int .i64 e]) ∧ SlOf w' 1 (RRow w') (.slice a1 n c1) l1 ∧ SlOf w' 1 (RRow w') (.slice a2 n c2) l2 ∧ Below w.heap.size w w' := by
  by_cases h0 : flowE f m0 m1 (f.blocks.length * f.blocks.length + 1) = 0
  · refine (sets_any f _ _ m0 m1 av ab cv cb h0 rfl rfl w hv hb).mono ?_
    rintro e w' ⟨g1, g2, I, O, h1, h2, h3, h4, h5⟩
    exact ⟨0, _, _, _, _, _, _, _, Or.inr ⟨h0, rfl, I, O, h4, rfl, rfl⟩, by simp, by simp, h1, h2, h3, h5⟩
  · exact (sets_err f _ _ m0 m1 _ av ab cv cb rfl h0 rfl rfl w hv hb).mono fun x w' h => ⟨_, [], [], none, none, 0, 0, 0, Or.inl ⟨h0, rfl, rfl, rfl⟩, rfl, rfl, h.1, SlOf_nil _ _ _ _ _, SlOf_nil _ _ _ _ _, h.2⟩
theorem setsOf_all (f : Fn) (m0 m1 e : Int) (l1 l2 : List (List Int)) (hA : SeAns f m0 m1 e l1 l2) (av ab : Option Addr) (cv cb : Nat) (w : World) (hv : SlOf w 1 RInt (.slice av f.values.length cv) f.values) (hb : SlOf w 3 (RBlk w) (.slice ab f.blocks.length cb) f.blocks) :
    Calls Try.prog 6 #[.agg #[.slice av f.values.length cv, .slice ab f.blocks.length cb], .agg #[.int .i64 m0, .int .i64 m1]] w fun x w' => ∃ a1 a2 n c1 c2, l1.length = n ∧ l2.length = n ∧ x = .returned (.tuple #[.agg #[.slice a1 n c1, .slice a2 n c2], .int .i64 e]) ∧ SlOf w' 1 (RRow w') (.slice a1 n c1) l1 ∧ SlOf w' 1 (RRow w') (.slice a2 n c2) l2 ∧ Below w.heap.size w w' := by
  rcases hA with ⟨h0, rfl, rfl, rfl⟩ | ⟨h0, rfl, I, O, hT, rfl, rfl⟩
  · exact (setsOf_err f _ _ m0 m1 _ av ab cv cb rfl h0 rfl rfl w hv hb).mono fun x w' h => ⟨none, none, 0, 0, 0, rfl, rfl, h.1, SlOf_nil _ _ _ _ _, SlOf_nil _ _ _ _ _, h.2⟩
  · refine (setsOf_any f _ _ m0 m1 I O av ab cv cb h0 hT rfl rfl w hv hb).mono ?_
    rintro x w' ⟨R1, R2, h1, h2, h3, h4⟩
    exact ⟨_, _, _, _, _, by simp, by simp, h1, h2, h3, h4⟩

set_option maxHeartbeats 4000000 in
theorem liveSets_walk (f : Fn) (m0 m1 : Int) (vv vb : Value) (w : World) (hv0 : SlOf w 1 RInt vv f.values) (hb0 : SlOf w 3 (RBlk w) vb f.blocks) :
    Calls Try.prog 3 #[.agg #[vv, vb], .agg #[.int .i64 m0, .int .i64 m1]] w fun e w' => e = .returned (.bool true) ∧ Below w.heap.size w w' := by
  obtain ⟨av, cv, rfl, lv⟩ := hv0.out
  obtain ⟨ab, cb, rfl, lb⟩ := hb0.out
  obtain ⟨W, hW⟩ : ∃ W, W = (w.alloc (.cells #[.slice av f.values.length cv, .slice ab f.blocks.length cb] 25)).alloc (.cells #[.int .i64 m0, .int .i64 m1] 28) := ⟨_, rfl⟩
  have hbw : Below w.heap.size w W := by rw [hW]; exact ((Below.refl _ _).alloc (Nat.le_refl _) _).alloc (by simp) _
  have zW : w.heap.size + 1 < W.heap.size := by rw [hW]; simp
  obtain ⟨t0, t1⟩ := two_at w #[.slice av f.values.length cv, .slice ab f.blocks.length cb] #[.int .i64 m0, .int .i64 m1] 25 28
  rw [← hW] at t0 t1
  have HF : Hid (∀ w', Below W.heap.size W w' → w'.cell? ⟨w.heap.size, 0, none⟩ = some (.slice av f.values.length cv) ∧ w'.cell? ⟨w.heap.size, 1, none⟩ = some (.slice ab f.blocks.length cb) ∧ w'.cell? ⟨w.heap.size + 1, 0, none⟩ = some (.int .i64 m0) ∧ w'.cell? ⟨w.heap.size + 1, 1, none⟩ = some (.int .i64 m1) ∧ w.heap.size + 1 < w'.heap.size) := fun w' hh => ⟨(hh.cell (p := ⟨w.heap.size, 0, none⟩) (by simp; omega)).trans (t0 0), (hh.cell (p := ⟨w.heap.size, 1, none⟩) (by simp; omega)).trans (t0 1), (hh.cell (p := ⟨w.heap.size + 1, 0, none⟩) (by simp; omega)).trans (t1 0), (hh.cell (p := ⟨w.heap.size + 1, 1, none⟩) (by simp; omega)).trans (t1 1), Nat.lt_of_lt_of_le zW hh.size⟩
  have HW : Hid (W = (w.alloc (.cells #[.slice av f.values.length cv, .slice ab f.blocks.length cb] 25)).alloc (.cells #[.int .i64 m0, .int .i64 m1] 28)) := hW
  have HBW : Hid (Below w.heap.size w W) := hbw
  have HC := sets_all f m0 m1 av ab cv cb W (hv0.below hbw fun _ _ h => h) (hb0.below hbw (RBlk.below hbw))
  obtain ⟨f0, f1, e0, e1, lW⟩ := HF.out _ (Below.refl _ _)
  clear hW t0 t1 hbw zW
  go_enter Try.func3, Try.ntmps3
  go_upto_region 1 with fail
  rw [← HW.out]
  go_wp2_with fail
  refine HC.mono ?_
  clear HC HW f0 f1 e0 e1 lW
  rintro x w1 ⟨r, l1, l2, a1, a2, n, c1, c2, hA, hn1, hn2, rfl, hs1, hs2, hb1⟩
  have HA : Hid (SeAns f m0 m1 r l1 l2) := hA
  have HN1 : Hid (l1.length = n ∧ l2.length = n) := ⟨hn1, hn2⟩
  obtain ⟨W2, hW2⟩ : ∃ W2, W2 = w1.alloc (.cells #[.slice a1 n c1, .slice a2 n c2] 31) := ⟨_, rfl⟩
  obtain ⟨P, hP⟩ : ∃ P, w1.heap.size = P := ⟨_, rfl⟩
  have b2 : Below w1.heap.size w1 W2 := by rw [hW2]; exact (Below.refl _ _).alloc (Nat.le_refl _) _
  have t2 := top_at w1 #[.slice a1 n c1, .slice a2 n c2] 31
  rw [← hW2, hP] at t2
  have HY : Hid (∀ w', Below W2.heap.size W2 w' → w'.cell? ⟨P, 0, none⟩ = some (.slice a1 n c1) ∧ w'.cell? ⟨P, 1, none⟩ = some (.slice a2 n c2) ∧ P < w'.heap.size) := fun w' hh => ⟨(hh.cell (p := ⟨P, 0, none⟩) (block_lt (t2 0))).trans (t2 0), (hh.cell (p := ⟨P, 1, none⟩) (block_lt (t2 0))).trans (t2 1), Nat.lt_of_lt_of_le (block_lt (t2 0)) hh.size⟩
  have HB2 : Hid (Below W.heap.size W W2) := hb1.trans (b2.mono hb1.size)
  have HS2 : Hid (SlOf W2 1 (RRow W2) (.slice a1 n c1) l1 ∧ SlOf W2 1 (RRow W2) (.slice a2 n c2) l2) := ⟨hs1.below b2 (RRow.below b2), hs2.below b2 (RRow.below b2)⟩
  have HW2 : Hid (W2 = w1.alloc (.cells #[.slice a1 n c1, .slice a2 n c2] 31)) := hW2
  have HPP : Hid (w1.heap.size = P) := hP
  clear hA hn1 hn2 hs1 hs2 hb1 hW2 hP b2 t2
  go_upto_region 2 with fail
  rw [← HW2.out, HPP.out]
  clear HW2 HPP
  obtain ⟨f0, f1, e0, e1, lW⟩ := HF.out _ HB2.out
  obtain ⟨y0, y1, lP⟩ := HY.out _ (Below.refl _ _)
  have hbw2 : Below w.heap.size w W2 := HBW.out.trans (HB2.out.mono HBW.out.size)
  have HC := setsOf_all f m0 m1 r l1 l2 HA.out av ab cv cb W2 (hv0.below hbw2 fun _ _ h => h) (hb0.below hbw2 (RBlk.below hbw2))
  clear hbw2
  go_wp2_with fail
  refine HC.mono ?_
  clear HC f0 f1 e0 e1 lW y0 y1 lP
  rintro x w3 ⟨a3, a4, n2, c3, c4, hn3, hn4, rfl, hs3, hs4, hb3⟩
  have hnn : n2 = n := by rw [← hn3]; exact HN1.out.1
  subst hnn
  obtain ⟨W4, hW4⟩ : ∃ W4, W4 = w3.alloc (.cells #[.slice a3 n2 c3, .slice a4 n2 c4] 31) := ⟨_, rfl⟩
  obtain ⟨M, hM⟩ : ∃ M, w3.heap.size = M := ⟨_, rfl⟩
  have b4 : Below w3.heap.size w3 W4 := by rw [hW4]; exact (Below.refl _ _).alloc (Nat.le_refl _) _
  have t4 := top_at w3 #[.slice a3 n2 c3, .slice a4 n2 c4] 31
  rw [← hW4, hM] at t4
  have HZ : Hid (∀ w', Below W4.heap.size W4 w' → w'.cell? ⟨M, 0, none⟩ = some (.slice a3 n2 c3) ∧ w'.cell? ⟨M, 1, none⟩ = some (.slice a4 n2 c4) ∧ M < w'.heap.size) := fun w' hh => ⟨(hh.cell (p := ⟨M, 0, none⟩) (block_lt (t4 0))).trans (t4 0), (hh.cell (p := ⟨M, 1, none⟩) (block_lt (t4 0))).trans (t4 1), Nat.lt_of_lt_of_le (block_lt (t4 0)) hh.size⟩
  have HB4 : Hid (Below W2.heap.size W2 W4) := hb3.trans (b4.mono hb3.size)
  have HS4 : Hid (SlOf W4 1 (RRow W4) (.slice a3 n2 c3) l1 ∧ SlOf W4 1 (RRow W4) (.slice a4 n2 c4) l2) := ⟨hs3.below b4 (RRow.below b4), hs4.below b4 (RRow.below b4)⟩
  have HW4 : Hid (W4 = w3.alloc (.cells #[.slice a3 n2 c3, .slice a4 n2 c4] 31)) := hW4
  have HMM : Hid (w3.heap.size = M) := hM
  clear hn3 hn4 hs3 hs4 hb3 hW4 hM b4 t4
  go_upto_region 3 with fail
  rw [← HW4.out, HMM.out]
  clear HW4 HMM
  obtain ⟨y0, y1, lP⟩ := HY.out _ HB4.out
  obtain ⟨z0, z1, lM⟩ := HZ.out _ (Below.refl _ _)
  have HC := srows_true l1 a1 a3 n2 c1 c3 W4 HN1.out.1 (HS2.out.1.below HB4.out (RRow.below HB4.out)) HS4.out.1
  go_wp2_with fail
  refine HC.mono ?_
  clear HC y0 y1 lP z0 z1 lM
  rintro x w5 ⟨rfl, hb5⟩
  have HB5 : Hid (Below W4.heap.size W4 w5) := hb5
  have HB6 : Hid (Below W2.heap.size W2 w5) := HB4.out.trans (hb5.mono HB4.out.size)
  obtain ⟨y0, y1, lP⟩ := HY.out _ HB6.out
  obtain ⟨z0, z1, lM⟩ := HZ.out _ hb5
  have HC := srows_true l2 a2 a4 n2 c2 c4 w5 HN1.out.2 (HS2.out.2.below HB6.out (RRow.below HB6.out)) (HS4.out.2.below hb5 (RRow.below hb5))
  clear hb5
  go_wp2_with fail
  refine HC.mono ?_
  clear HC y0 y1 lP z0 z1 lM
  rintro x w7 ⟨rfl, hb7⟩
  have HF7 : Hid (Below w.heap.size w w7) := by
    have h1 := HB2.out.trans (HB6.out.mono HB2.out.size)
    have h2 := h1.trans (hb7.mono h1.size)
    exact HBW.out.trans (h2.mono HBW.out.size)
  clear hb7
  go_wp2
  go_ret
  exact ⟨rfl, HF7.out⟩
end Go.Proofs.Ytfelpjgagglhiaa
