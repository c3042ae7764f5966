/-
  The contracts of the statements' own 'sameInts' and 'sameEvents'.
-/
import Derived.Test.YtmanjojjncjaiaaR6
import Derived.Deep.QuietTactic
import Derived.BigQuiet
namespace Go.Proofs.Ytmanjojjncjaiaa
open Go.RowKit
set_option linter.unusedVariables false

theorem sr_drewN {B : Nat} {a w : World} (h : Below B a w) (n : Nat) : Below B a (w.drewN n) := ⟨h.os, h.tape, h.output, h.size, h.block⟩
set_option maxHeartbeats 2000000 in
theorem ksame_true (l : List Int) (a b : Option Addr) (n c d : Nat) (w : World) (hn : l.length = n) (h1 : SlOf w 1 RInt (.slice a n c) l) (h2 : SlOf w 1 RInt (.slice b n d) l) :
    Calls Try.prog 20 #[.slice a n c, .slice b n d] w fun e w' => e = .returned (.bool true) ∧ Below w.heap.size w w' := by
  subst hn
  have lb : l.length ≤ longest := by
    obtain ⟨_, _, _, h⟩ := h1.out
    exact h
  unfold longest at lb
  have HA : Hid (SlOf w 1 RInt (.slice a l.length c) l) := h1
  have HB : Hid (SlOf w 1 RInt (.slice b l.length d) l) := h2
  clear h1 h2
  go_enter Try.func20, Try.ntmps20
  go_wp2_with fail
  go_loopw [5] (fun i wr => ∃ k : Nat, k ≤ l.length ∧ i = .int .i64 k ∧ Below w.heap.size w wr) (fun i _ => l.length - (intOf i).toNat)
  case atStart => exact ⟨0, Nat.zero_le _, rfl, Below.refl _ _⟩
  case round =>
    obtain ⟨k, hk, rfl, hbr⟩ := hrel
    by_cases hlt : k < l.length
    · obtain ⟨b1, o1, rfl, hb1, hc1⟩ := ru_at HA.out k hlt
      obtain ⟨b2, o2, rfl, hb2, hc2⟩ := ru_at HB.out k hlt
      have e1 := (hbr.cell (p := ⟨b1, o1 + k, none⟩) hb1).trans hc1
      have e2 := (hbr.cell (p := ⟨b2, o2 + k, none⟩) hb2).trans hc2
      clear hc1 hc2
      generalize l.getD k 0 = x at *
      go_wp2_with fail
      go_quiet (fail)
      go_wp2
      go_roundw
      case rel => exact ⟨k + 1, by omega, by go_num, sr_drewN hbr _⟩
      case measure => simp [intOf]; omega
    · go_wp2
      go_ret
      exact ⟨rfl, hbr⟩
theorem evt_at {w : World} {a : Option Addr} {n c : Nat} {l : List Evt} (h : SlOf w 4 (REv w) (.slice a n c) l) (k : Nat) (hk : k < l.length) : ∃ b off ar cr, a = some ⟨b, off, none⟩ ∧ b < w.heap.size ∧ w.cell? ⟨b, off + k * 4, none⟩ = some (.int .i64 l[k].block) ∧ w.cell? ⟨b, off + k * 4 + 1, none⟩ = some (.int .i64 l[k].place) ∧ w.cell? ⟨b, off + k * 4 + 2, none⟩ = some (.slice ar l[k].read.length cr) ∧ w.cell? ⟨b, off + k * 4 + 3, none⟩ = some (.int .i64 l[k].edge) ∧ SlOf w 1 RInt (.slice ar l[k].read.length cr) l[k].read := by
  obtain ⟨b, off, cs, h1, h2, ⟨vr, rfl, hr⟩, h4⟩ := h.at k hk
  obtain ⟨ar, cr, rfl, _⟩ := hr.out
  have c0 := h4 0 (by simp)
  have c1 := h4 1 (by simp)
  have c2 := h4 2 (by simp)
  have c3 := h4 3 (by simp)
  simp at c0 c1 c2 c3
  exact ⟨b, off, ar, cr, h1, block_lt c0, c0, c1, c2, c3, hr⟩
theorem sl_take {α : Type} {w : World} {m : Nat} {R : List Value → α → Prop} {a : Option Addr} {n cap : Nat} {l : List α} (h : SlOf w m R (.slice a n cap) l) (k : Nat) (hk : k ≤ l.length) (cap' : Nat) : SlOf w m R (.slice a k cap') (l.take k) := by
  obtain ⟨a', c', hv, hl, h⟩ := h
  simp only [Value.slice.injEq] at hv
  obtain ⟨rfl, _, _⟩ := hv
  refine ⟨a, cap', by rw [List.length_take, Nat.min_eq_left hk], by rw [List.length_take]; omega, ?_⟩
  by_cases e : l.take k = []
  · exact Or.inl e
  · rcases h with rfl | ⟨b, off, ha, h⟩
    · simp at e
    · refine Or.inr ⟨b, off, ha, fun i hi => ?_⟩
      rw [List.length_take] at hi
      obtain ⟨cs, h1, h2, h3⟩ := h i (by omega)
      exact ⟨cs, h1, by rw [List.getElem_take]; exact h2, h3⟩

set_option maxRecDepth 4000 in
set_option maxHeartbeats 8000000 in
theorem ksame_evs (l : List Evt) (a b : Option Addr) (n c d : Nat) (w : World) (hn : l.length = n) (h1 : SlOf w 4 (REv w) (.slice a n c) l) (h2 : SlOf w 4 (REv w) (.slice b n d) l) :
    Calls Try.prog 14 #[.slice a n c, .slice b n d] w fun e w' => e = .returned (.bool true) ∧ Below w.heap.size w w' := by
  have lb : n ≤ longest := by
    obtain ⟨_, _, _, h⟩ := h1.out
    omega
  unfold longest at lb
  have HA : Hid (SlOf w 4 (REv w) (.slice a n c) l ∧ l.length = n) := ⟨h1, hn⟩
  have HB : Hid (SlOf w 4 (REv w) (.slice b n d) l) := h2
  clear h1 h2 hn
  go_enter Try.func14, Try.ntmps14
  go_wp2_with fail
  go_loopw [5] (fun i wr => ∃ k : Nat, k ≤ n ∧ i = .int .i64 k ∧ Hid (Below w.heap.size w wr)) (fun i _ => n - (intOf i).toNat)
  case atStart => exact ⟨0, Nat.zero_le _, rfl, Below.refl _ _⟩
  case round =>
    obtain ⟨k, hk, rfl, HBR⟩ := hrel
    by_cases hlt : k < n
    · have hkl : k < l.length := by rw [HA.out.2]; exact hlt
      obtain ⟨b1, o1, ar, cr, rfl, lb1, p0, p1, p2, p3, pr⟩ := evt_at HA.out.1 k hkl
      obtain ⟨b2, o2, as2, cs2, rfl, lb2, q0, q1, q2, q3, qr⟩ := evt_at HB.out k hkl
      have hbr := HBR.out
      obtain ⟨nr, hnr⟩ : ∃ nr, (l[k]'hkl).read.length = nr := ⟨_, rfl⟩
      rw [hnr] at p2 q2 pr qr
      generalize l[k]'hkl = x at *
      have lW1 : b1 < wr.heap.size := Nat.lt_of_lt_of_le lb1 hbr.size
      have lW2 : b2 < wr.heap.size := Nat.lt_of_lt_of_le lb2 hbr.size
      have p0 := (hbr.cell (p := ⟨b1, _, none⟩) lb1).trans p0
      have p1 := (hbr.cell (p := ⟨b1, _, none⟩) lb1).trans p1
      have p2 := (hbr.cell (p := ⟨b1, _, none⟩) lb1).trans p2
      have p3 := (hbr.cell (p := ⟨b1, _, none⟩) lb1).trans p3
      have q0 := (hbr.cell (p := ⟨b2, _, none⟩) lb2).trans q0
      have q1 := (hbr.cell (p := ⟨b2, _, none⟩) lb2).trans q1
      have q2 := (hbr.cell (p := ⟨b2, _, none⟩) lb2).trans q2
      have q3 := (hbr.cell (p := ⟨b2, _, none⟩) lb2).trans q3
      have hd : Below w.heap.size w wr.drew := hbr.drew
      have HC := ksame_true x.read ar as2 nr cr cs2 wr.drew hnr (pr.below hd fun _ _ h => h) (qr.below hd fun _ _ h => h)
      have HSF : Hid (∀ w', Below wr.heap.size wr w' → (fun w' => w'.cell? ⟨b1, o1 + k * 4, none⟩ = some (.int .i64 x.block) ∧ w'.cell? ⟨b1, o1 + k * 4 + 1, none⟩ = some (.int .i64 x.place) ∧ w'.cell? ⟨b1, o1 + k * 4 + 2, none⟩ = some (.slice ar nr cr) ∧ w'.cell? ⟨b1, o1 + k * 4 + 3, none⟩ = some (.int .i64 x.edge) ∧ w'.cell? ⟨b2, o2 + k * 4, none⟩ = some (.int .i64 x.block) ∧ w'.cell? ⟨b2, o2 + k * 4 + 1, none⟩ = some (.int .i64 x.place) ∧ w'.cell? ⟨b2, o2 + k * 4 + 2, none⟩ = some (.slice as2 nr cs2) ∧ w'.cell? ⟨b2, o2 + k * 4 + 3, none⟩ = some (.int .i64 x.edge)) w') := fun w' hh => ⟨(hh.cell lW1).trans p0, (hh.cell lW1).trans p1, (hh.cell lW1).trans p2, (hh.cell lW1).trans p3, (hh.cell lW2).trans q0, (hh.cell lW2).trans q1, (hh.cell lW2).trans q2, (hh.cell lW2).trans q3⟩
      have hkn : k < n + 1 := by omega
      have wk : IntKind.i64.wrap (k : Int) = (k : Int) := by rw [IntKind.wrap_i64]; omega
      have E0 : (x.block == x.block) = true := by simp
      clear p0 p1 p2 p3 q0 q1 q2 q3 pr qr hd hbr hnr
      go_upto_region 6 with fail
      refine wp_region_X (fun w' => w'.cell? ⟨b1, o1 + k * 4, none⟩ = some (.int .i64 x.block) ∧ w'.cell? ⟨b1, o1 + k * 4 + 1, none⟩ = some (.int .i64 x.place) ∧ w'.cell? ⟨b1, o1 + k * 4 + 2, none⟩ = some (.slice ar nr cr) ∧ w'.cell? ⟨b1, o1 + k * 4 + 3, none⟩ = some (.int .i64 x.edge) ∧ w'.cell? ⟨b2, o2 + k * 4, none⟩ = some (.int .i64 x.block) ∧ w'.cell? ⟨b2, o2 + k * 4 + 1, none⟩ = some (.int .i64 x.place) ∧ w'.cell? ⟨b2, o2 + k * 4 + 2, none⟩ = some (.slice as2 nr cs2) ∧ w'.cell? ⟨b2, o2 + k * 4 + 3, none⟩ = some (.int .i64 x.edge)) 99 (by kernel_rfl) (HSF.out _ (Below.refl _ _).drew) (fun hHeld => ?_)
      refine wpXt (v := ?_) 0 rfl (by kernel_rfl) (fun _ _ _ h => h) (by rfl) ?_ hHeld ?_
      rotate_left
      · intro w' hSw
        go_simp <;> with_reducible rfl
      try simp only [Act.put, List.setIfInBounds_toArray, List.set_cons_zero, List.set_cons_succ]
      refine wpXt (v := ?_) 1 rfl (by kernel_rfl) (fun _ _ _ h => h) (by rfl) ?_ hHeld ?_
      rotate_left
      · intro w' hSw
        go_simp <;> with_reducible rfl
      try simp only [Act.put, List.setIfInBounds_toArray, List.set_cons_zero, List.set_cons_succ]
      refine wpXt (v := ?_) 2 rfl (by kernel_rfl) (fun _ _ _ h => h) (by rfl) ?_ hHeld ?_
      rotate_left
      · intro w' hSw
        go_simp <;> with_reducible rfl
      try simp only [Act.put, List.setIfInBounds_toArray, List.set_cons_zero, List.set_cons_succ]
      refine wpXt (v := ?_) 3 rfl (by kernel_rfl) (fun _ _ _ h => h) (by rfl) ?_ hHeld ?_
      rotate_left
      · intro w' hSw
        go_simp <;> with_reducible rfl
      try simp only [Act.put, List.setIfInBounds_toArray, List.set_cons_zero, List.set_cons_succ]
      refine wpXt (v := ?_) 4 rfl (by kernel_rfl) (fun _ _ _ h => h) (by rfl) ?_ hHeld ?_
      rotate_left
      · intro w' hSw
        go_simp <;> with_reducible rfl
      try simp only [Act.put, List.setIfInBounds_toArray, List.set_cons_zero, List.set_cons_succ]
      refine wpXt (v := ?_) 5 rfl (by kernel_rfl) (fun _ _ _ h => h) (by rfl) ?_ hHeld ?_
      rotate_left
      · intro w' hSw
        go_simp <;> with_reducible rfl
      try simp only [Act.put, List.setIfInBounds_toArray, List.set_cons_zero, List.set_cons_succ]
      refine wpXt (v := ?_) 6 rfl (by kernel_rfl) (fun _ _ _ h => h) (by rfl) ?_ hHeld ?_
      rotate_left
      · intro w' hSw
        go_simp <;> with_reducible rfl
      try simp only [Act.put, List.setIfInBounds_toArray, List.set_cons_zero, List.set_cons_succ]
      refine wpXt (v := ?_) 7 rfl (by kernel_rfl) (fun _ _ _ h => h) (by rfl) ?_ hHeld ?_
      rotate_left
      · intro w' hSw
        go_simp <;> with_reducible rfl
      try simp only [Act.put, List.setIfInBounds_toArray, List.set_cons_zero, List.set_cons_succ]
      refine wpXt (v := ?_) 8 rfl (by kernel_rfl) (fun _ _ _ h => h) (by rfl) ?_ hHeld ?_
      rotate_left
      · intro w' hSw
        go_simp <;> with_reducible rfl
      try simp only [Act.put, List.setIfInBounds_toArray, List.set_cons_zero, List.set_cons_succ]
      refine wpXt (v := ?_) 9 rfl (by kernel_rfl) (fun _ _ _ h => h) (by rfl) ?_ hHeld ?_
      rotate_left
      · intro w' hSw
        go_simp <;> with_reducible rfl
      try simp only [Act.put, List.setIfInBounds_toArray, List.set_cons_zero, List.set_cons_succ]
      refine wpXt (v := ?_) 10 rfl (by kernel_rfl) (fun _ _ _ h => h) (by rfl) ?_ hHeld ?_
      rotate_left
      · intro w' hSw
        go_simp <;> with_reducible rfl
      try simp only [Act.put, List.setIfInBounds_toArray, List.set_cons_zero, List.set_cons_succ]
      refine wpXt (v := ?_) 11 rfl (by kernel_rfl) (fun _ _ _ h => h) (by rfl) ?_ hHeld ?_
      rotate_left
      · intro w' hSw
        go_simp <;> with_reducible rfl
      try simp only [Act.put, List.setIfInBounds_toArray, List.set_cons_zero, List.set_cons_succ]
      refine wpXt (v := ?_) 12 rfl (by kernel_rfl) (fun _ _ _ h => h) (by rfl) ?_ hHeld ?_
      rotate_left
      · intro w' hSw
        go_simp <;> with_reducible rfl
      try simp only [Act.put, List.setIfInBounds_toArray, List.set_cons_zero, List.set_cons_succ]
      refine wpXt (v := ?_) 13 rfl (by kernel_rfl) (fun _ _ _ h => h) (by rfl) ?_ hHeld ?_
      rotate_left
      · intro w' hSw
        go_simp <;> with_reducible rfl
      try simp only [Act.put, List.setIfInBounds_toArray, List.set_cons_zero, List.set_cons_succ]
      refine wpXt (v := ?_) 14 rfl (by kernel_rfl) (fun _ _ _ h => h) (by rfl) ?_ hHeld ?_
      rotate_left
      · intro w' hSw
        go_simp <;> with_reducible rfl
      try simp only [Act.put, List.setIfInBounds_toArray, List.set_cons_zero, List.set_cons_succ]
      refine wpXt (v := ?_) 15 rfl (by kernel_rfl) (fun _ _ _ h => h) (by rfl) ?_ hHeld ?_
      rotate_left
      · intro w' hSw
        go_simp <;> with_reducible rfl
      try simp only [Act.put, List.setIfInBounds_toArray, List.set_cons_zero, List.set_cons_succ]
      refine wpXt (v := ?_) 16 rfl (by kernel_rfl) (fun _ _ _ h => h) (by rfl) ?_ hHeld ?_
      rotate_left
      · intro w' hSw
        go_simp <;> with_reducible rfl
      try simp only [Act.put, List.setIfInBounds_toArray, List.set_cons_zero, List.set_cons_succ]
      refine wpXt (v := ?_) 17 rfl (by kernel_rfl) (fun _ _ _ h => h) (by rfl) ?_ hHeld ?_
      rotate_left
      · intro w' hSw
        go_simp <;> with_reducible rfl
      try simp only [Act.put, List.setIfInBounds_toArray, List.set_cons_zero, List.set_cons_succ]
      refine wpXt (v := ?_) 18 rfl (by kernel_rfl) (fun _ _ _ h => h) (by rfl) ?_ hHeld ?_
      rotate_left
      · intro w' hSw
        go_simp <;> with_reducible rfl
      try simp only [Act.put, List.setIfInBounds_toArray, List.set_cons_zero, List.set_cons_succ]
      refine wpXt (v := ?_) 19 rfl (by kernel_rfl) (fun _ _ _ h => h) (by rfl) ?_ hHeld ?_
      rotate_left
      · intro w' hSw
        go_simp <;> with_reducible rfl
      try simp only [Act.put, List.setIfInBounds_toArray, List.set_cons_zero, List.set_cons_succ]
      refine wpXt (v := ?_) 20 rfl (by kernel_rfl) (fun _ _ _ h => h) (by rfl) ?_ hHeld ?_
      rotate_left
      · intro w' hSw
        go_simp <;> with_reducible rfl
      try simp only [Act.put, List.setIfInBounds_toArray, List.set_cons_zero, List.set_cons_succ]
      refine wpXt (v := ?_) 21 rfl (by kernel_rfl) (fun _ _ _ h => h) (by rfl) ?_ hHeld ?_
      rotate_left
      · intro w' hSw
        go_simp <;> with_reducible rfl
      try simp only [Act.put, List.setIfInBounds_toArray, List.set_cons_zero, List.set_cons_succ]
      refine wpXt (v := ?_) 22 rfl (by kernel_rfl) (fun _ _ _ h => h) (by rfl) ?_ hHeld ?_
      rotate_left
      · intro w' hSw
        go_simp <;> with_reducible rfl
      try simp only [Act.put, List.setIfInBounds_toArray, List.set_cons_zero, List.set_cons_succ]
      refine wpXt (v := ?_) 23 rfl (by kernel_rfl) (fun _ _ _ h => h) (by rfl) ?_ hHeld ?_
      rotate_left
      · intro w' hSw
        go_simp <;> with_reducible rfl
      try simp only [Act.put, List.setIfInBounds_toArray, List.set_cons_zero, List.set_cons_succ]
      refine wpXt (v := ?_) 24 rfl (by kernel_rfl) (fun _ _ _ h => h) (by rfl) ?_ hHeld ?_
      rotate_left
      · intro w' hSw
        go_simp <;> with_reducible rfl
      try simp only [Act.put, List.setIfInBounds_toArray, List.set_cons_zero, List.set_cons_succ]
      refine wpXt (v := ?_) 25 rfl (by kernel_rfl) (fun _ _ _ h => h) (by rfl) ?_ hHeld ?_
      rotate_left
      · intro w' hSw
        go_simp <;> with_reducible rfl
      try simp only [Act.put, List.setIfInBounds_toArray, List.set_cons_zero, List.set_cons_succ]
      refine wpXt (v := ?_) 26 rfl (by kernel_rfl) (fun _ _ _ h => h) (by rfl) ?_ hHeld ?_
      rotate_left
      · intro w' hSw
        go_simp <;> with_reducible rfl
      try simp only [Act.put, List.setIfInBounds_toArray, List.set_cons_zero, List.set_cons_succ]
      refine wpXt (v := ?_) 27 rfl (by kernel_rfl) (fun _ _ _ h => h) (by rfl) ?_ hHeld ?_
      rotate_left
      · intro w' hSw
        go_simp <;> with_reducible rfl
      try simp only [Act.put, List.setIfInBounds_toArray, List.set_cons_zero, List.set_cons_succ]
      refine wpXt (v := ?_) 28 rfl (by kernel_rfl) (fun _ _ _ h => h) (by rfl) ?_ hHeld ?_
      rotate_left
      · intro w' hSw
        go_simp <;> with_reducible rfl
      try simp only [Act.put, List.setIfInBounds_toArray, List.set_cons_zero, List.set_cons_succ]
      refine wpXt (v := ?_) 29 rfl (by kernel_rfl) (fun _ _ _ h => h) (by rfl) ?_ hHeld ?_
      rotate_left
      · intro w' hSw
        go_simp <;> with_reducible rfl
      try simp only [Act.put, List.setIfInBounds_toArray, List.set_cons_zero, List.set_cons_succ]
      refine wpXt (v := ?_) 30 rfl (by kernel_rfl) (fun _ _ _ h => h) (by rfl) ?_ hHeld ?_
      rotate_left
      · intro w' hSw
        go_simp <;> with_reducible rfl
      try simp only [Act.put, List.setIfInBounds_toArray, List.set_cons_zero, List.set_cons_succ]
      refine wpXt (v := ?_) 31 rfl (by kernel_rfl) (fun _ _ _ h => h) (by rfl) ?_ hHeld ?_
      rotate_left
      · intro w' hSw
        go_simp <;> with_reducible rfl
      try simp only [Act.put, List.setIfInBounds_toArray, List.set_cons_zero, List.set_cons_succ]
      refine wpXt (v := ?_) 32 rfl (by kernel_rfl) (fun _ _ _ h => h) (by rfl) ?_ hHeld ?_
      rotate_left
      · intro w' hSw
        go_simp <;> with_reducible rfl
      try simp only [Act.put, List.setIfInBounds_toArray, List.set_cons_zero, List.set_cons_succ]
      refine wpXt (v := ?_) 33 rfl (by kernel_rfl) (fun _ _ _ h => h) (by rfl) ?_ hHeld ?_
      rotate_left
      · intro w' hSw
        go_simp <;> with_reducible rfl
      try simp only [Act.put, List.setIfInBounds_toArray, List.set_cons_zero, List.set_cons_succ]
      refine wpXt (v := ?_) 34 rfl (by kernel_rfl) (fun _ _ _ h => h) (by rfl) ?_ hHeld ?_
      rotate_left
      · intro w' hSw
        go_simp <;> with_reducible rfl
      try simp only [Act.put, List.setIfInBounds_toArray, List.set_cons_zero, List.set_cons_succ]
      refine wpXt (v := ?_) 35 rfl (by kernel_rfl) (fun _ _ _ h => h) (by rfl) ?_ hHeld ?_
      rotate_left
      · intro w' hSw
        go_simp <;> with_reducible rfl
      try simp only [Act.put, List.setIfInBounds_toArray, List.set_cons_zero, List.set_cons_succ]
      refine wpXt (v := ?_) 36 rfl (by kernel_rfl) (fun _ _ _ h => h) (by rfl) ?_ hHeld ?_
      rotate_left
      · intro w' hSw
        go_simp <;> with_reducible rfl
      try simp only [Act.put, List.setIfInBounds_toArray, List.set_cons_zero, List.set_cons_succ]
      refine wpXt (v := ?_) 37 rfl (by kernel_rfl) (fun _ _ _ h => h) (by rfl) ?_ hHeld ?_
      rotate_left
      · intro w' hSw
        go_simp <;> with_reducible rfl
      try simp only [Act.put, List.setIfInBounds_toArray, List.set_cons_zero, List.set_cons_succ]
      refine wpXt (v := ?_) 38 rfl (by kernel_rfl) (fun _ _ _ h => h) (by rfl) ?_ hHeld ?_
      rotate_left
      · intro w' hSw
        go_simp <;> with_reducible rfl
      try simp only [Act.put, List.setIfInBounds_toArray, List.set_cons_zero, List.set_cons_succ]
      refine wpXt (v := ?_) 39 rfl (by kernel_rfl) (fun _ _ _ h => h) (by rfl) ?_ hHeld ?_
      rotate_left
      · intro w' hSw
        go_simp <;> with_reducible rfl
      try simp only [Act.put, List.setIfInBounds_toArray, List.set_cons_zero, List.set_cons_succ]
      refine wpXt (v := ?_) 40 rfl (by kernel_rfl) (fun _ _ _ h => h) (by rfl) ?_ hHeld ?_
      rotate_left
      · intro w' hSw
        go_simp <;> with_reducible rfl
      try simp only [Act.put, List.setIfInBounds_toArray, List.set_cons_zero, List.set_cons_succ]
      refine wpXt (v := ?_) 41 rfl (by kernel_rfl) (fun _ _ _ h => h) (by rfl) ?_ hHeld ?_
      rotate_left
      · intro w' hSw
        go_simp <;> with_reducible rfl
      try simp only [Act.put, List.setIfInBounds_toArray, List.set_cons_zero, List.set_cons_succ]
      refine wpXt (v := ?_) 42 rfl (by kernel_rfl) (fun _ _ _ h => h) (by rfl) ?_ hHeld ?_
      rotate_left
      · intro w' hSw
        go_simp <;> with_reducible rfl
      try simp only [Act.put, List.setIfInBounds_toArray, List.set_cons_zero, List.set_cons_succ]
      refine wpXt (v := ?_) 43 rfl (by kernel_rfl) (fun _ _ _ h => h) (by rfl) ?_ hHeld ?_
      rotate_left
      · intro w' hSw
        go_simp <;> with_reducible rfl
      try simp only [Act.put, List.setIfInBounds_toArray, List.set_cons_zero, List.set_cons_succ]
      refine wpXt (v := ?_) 44 rfl (by kernel_rfl) (fun _ _ _ h => h) (by rfl) ?_ hHeld ?_
      rotate_left
      · intro w' hSw
        go_simp <;> with_reducible rfl
      try simp only [Act.put, List.setIfInBounds_toArray, List.set_cons_zero, List.set_cons_succ]
      refine wpXt (v := ?_) 45 rfl (by kernel_rfl) (fun _ _ _ h => h) (by rfl) ?_ hHeld ?_
      rotate_left
      · intro w' hSw
        go_simp <;> with_reducible rfl
      try simp only [Act.put, List.setIfInBounds_toArray, List.set_cons_zero, List.set_cons_succ]
      refine wpXt (v := ?_) 46 rfl (by kernel_rfl) (fun _ _ _ h => h) (by rfl) ?_ hHeld ?_
      rotate_left
      · intro w' hSw
        go_simp <;> with_reducible rfl
      try simp only [Act.put, List.setIfInBounds_toArray, List.set_cons_zero, List.set_cons_succ]
      refine wpXt (v := ?_) 47 rfl (by kernel_rfl) (fun _ _ _ h => h) (by rfl) ?_ hHeld ?_
      rotate_left
      · intro w' hSw
        go_simp <;> with_reducible rfl
      try simp only [Act.put, List.setIfInBounds_toArray, List.set_cons_zero, List.set_cons_succ]
      refine wpXs 48 rfl (by kernel_rfl) (fun K hK => ?_)
      go_simp
      refine HC.mono ?_
      clear HC
      rintro e w3 ⟨rfl, hb3⟩
      have HB3 : Hid (Below wr.heap.size wr w3) := ((Below.refl _ _).drew).trans hb3
      clear hb3
      refine hK.out _ _ (HSF.out _ HB3.out) (fun hHeld => ?_)
      clear hK K
      try simp only [Act.put, List.setIfInBounds_toArray, List.set_cons_zero, List.set_cons_succ]
      refine wpXs 49 rfl (by kernel_rfl) (fun K hK => ?_)
      go_simp
      refine hK.out _ _ (HSF.out _ HB3.out) (fun hHeld => ?_)
      clear hK K
      try simp only [Act.put, List.setIfInBounds_toArray, List.set_cons_zero, List.set_cons_succ]
      refine wpXs 50 rfl (by kernel_rfl) (fun K hK => ?_)
      go_simp
      refine hK.out _ _ (HSF.out _ HB3.out) (fun hHeld => ?_)
      clear hK K
      try simp only [Act.put, List.setIfInBounds_toArray, List.set_cons_zero, List.set_cons_succ]
      refine wpAnyX_done (by kernel_rfl) ?_ _

      have HB4 : Hid (Below w.heap.size w w3) := HBR.out.trans (HB3.out.mono HBR.out.size)
      clear hHeld
      go_wp2
      go_roundw
      case rel => exact ⟨k + 1, by omega, by go_num, HB4⟩
      case measure => simp [intOf]; omega
    · have hbr := HBR.out
      clear HBR
      go_wp2
      go_ret
      exact ⟨rfl, hbr⟩
end Go.Proofs.Ytmanjojjncjaiaa
