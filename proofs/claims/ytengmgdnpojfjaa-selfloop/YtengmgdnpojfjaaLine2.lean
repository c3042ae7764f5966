/-
  'line' of two values: what lies where; the statements' own 'big'.
-/
import Derived.Test.YtengmgdnpojfjaaLineW
namespace Go.Proofs.Ytengmgdnpojfjaa
open Go.RowKit
set_option linter.unusedVariables false

theorem own_rowL {w : World} {base e k n : Nat} {v : Value} {xs : List Value} (h : w.ownsRow base e k v n xs) (hn : 0 < n) : ∃ g cap, v = .slice (some ⟨g, 0, none⟩) n cap ∧ base ≤ g ∧ g < w.heap.size ∧ (∀ j (hj : j < xs.length), w.cell? ⟨g, j, none⟩ = some xs[j]) ∧ ∀ j, w.frozen? ⟨g, j, none⟩ = false := by
  obtain ⟨hlen, h⟩ := h
  rcases h with ⟨rfl, rfl⟩ | ⟨g, cap, cur, rfl, hb, hg, hnc, hc, hcs, htake⟩
  · omega
  · refine ⟨g, cap, rfl, hb, ?_, fun j hj => ?_, fun j => by simp [World.frozen?, hg]⟩
    · rcases Nat.lt_or_ge g w.heap.size with h1 | h1
      · exact h1
      · rw [Array.getElem?_eq_none h1] at hg; cases hg
    · have h1 : xs[j]? = some xs[j] := List.getElem?_eq_getElem hj
      obtain ⟨v, hv'⟩ : ∃ v, xs[j] = v := ⟨_, rfl⟩
      rw [hv'] at h1 ⊢
      rw [← htake, List.getElem?_take, if_pos (by omega)] at h1
      simp only [World.cell?, hg]
      simpa using h1
theorem blk_cellL {w : World} {b : Nat} {cs : Array Value} {t : Nat} (h : w.heap[b]? = some (.cells cs t)) (j : Nat) (hj : j < cs.size) : w.cell? ⟨b, j, none⟩ = some cs[j] := by
  simp [World.cell?, h, hj]
theorem blk_frozenL {w : World} {b : Nat} {cs : Array Value} {t : Nat} (h : w.heap[b]? = some (.cells cs t)) (j : Nat) : w.frozen? ⟨b, j, none⟩ = false := by
  simp [World.frozen?, h]

/-- What a line of two values has where. -/
structure L2 (M gv cv gi ci o0 o1 : Nat) (w : World) : Prop where
  lB : M + 1 < w.heap.size
  lv : M + 1 + 1 < gv ∧ gv < w.heap.size
  li : M + 1 + 1 < gi ∧ gi < w.heap.size
  l0 : M + 1 + 1 < o0 ∧ o0 < w.heap.size
  l1 : M + 1 + 1 < o1 ∧ o1 < w.heap.size
  d : gv ≠ gi ∧ gv ≠ o0 ∧ gv ≠ o1 ∧ gi ≠ o0 ∧ gi ≠ o1 ∧ o0 ≠ o1
  v0 : w.cell? ⟨gv, 0, none⟩ = some (.int .i64 0)
  v1 : w.cell? ⟨gv, 1, none⟩ = some (.int .i64 0)
  b0 : w.cell? ⟨M + 1, 0, none⟩ = some (.slice none 0 0)
  b1 : w.cell? ⟨M + 1, 1, none⟩ = some (.slice (some ⟨gi, 0, none⟩) 2 ci)
  b2 : w.cell? ⟨M + 1, 2, none⟩ = some (.slice none 0 0)
  i0 : w.cell? ⟨gi, 0, none⟩ = some (.int .i64 0)
  i1 : w.cell? ⟨gi, 1, none⟩ = some (.slice (some ⟨o0, 0, none⟩) 1 1)
  i2 : w.cell? ⟨gi, 2, none⟩ = some (.slice none 0 0)
  i3 : w.cell? ⟨gi, 3, none⟩ = some (.int .i64 1)
  i4 : w.cell? ⟨gi, 4, none⟩ = some (.slice (some ⟨o1, 0, none⟩) 2 2)
  i5 : w.cell? ⟨gi, 5, none⟩ = some (.slice none 0 0)
  p0 : w.cell? ⟨o0, 0, none⟩ = some (.int .i64 2)
  p1 : w.cell? ⟨o0, 1, none⟩ = some (.int .i64 0)
  p2 : w.cell? ⟨o0, 2, none⟩ = some (.bool true)
  p3 : w.cell? ⟨o0, 3, none⟩ = some (.int .i64 1)
  p4 : w.cell? ⟨o0, 4, none⟩ = some (.int .i64 0)
  q0 : w.cell? ⟨o1, 0, none⟩ = some (.int .i64 1)
  q1 : w.cell? ⟨o1, 1, none⟩ = some (.int .i64 0)
  q2 : w.cell? ⟨o1, 2, none⟩ = some (.bool false)
  q3 : w.cell? ⟨o1, 3, none⟩ = some (.int .i64 1)
  q4 : w.cell? ⟨o1, 4, none⟩ = some (.int .i64 0)
  q5 : w.cell? ⟨o1, 5, none⟩ = some (.int .i64 2)
  q6 : w.cell? ⟨o1, 6, none⟩ = some (.int .i64 1)
  q7 : w.cell? ⟨o1, 7, none⟩ = some (.bool true)
  q8 : w.cell? ⟨o1, 8, none⟩ = some (.int .i64 1)
  q9 : w.cell? ⟨o1, 9, none⟩ = some (.int .i64 0)
  zv : ∀ j, w.frozen? ⟨gv, j, none⟩ = false
  zi : ∀ j, w.frozen? ⟨gi, j, none⟩ = false
  z1 : ∀ j, w.frozen? ⟨o1, j, none⟩ = false
  zB : ∀ j, w.frozen? ⟨M + 1, j, none⟩ = false

theorem line2_any (w : World) :
    Calls Try.prog 20 #[.int .i64 2] w fun e w' => ∃ gv cv gi ci o0 o1, e = .returned (.agg #[.slice (some ⟨gv, 0, none⟩) 2 cv, .slice (some ⟨w.heap.size + 1, 0, none⟩) 1 1]) ∧ L2 w.heap.size gv cv gi ci o0 o1 w' ∧ Below w.heap.size w w' := by
  refine (line_any 2 w (by omega) (by omega)).mono ?_
  rintro e w' ⟨vv, vi, ob, rfl, hS, hb⟩
  obtain ⟨gv, cv, rfl, hgv, hgv', cv', zv⟩ := own_rowL hS.ov (by omega)
  obtain ⟨gi, ci, rfl, hgi, hgi', ci', zi⟩ := own_rowL hS.oi (by omega)
  have O0 := hS.obs 0 (by omega)
  have O1 := hS.obs 1 (by omega)
  have dd : gv ≠ gi := fun e => hS.ap gv rfl (by simp [Value.ownBlock, e])
  have e01 : ob 0 ≠ ob 1 := fun e => absurd (hS.inj 0 1 (by omega) (by omega) e) (by omega)
  have n0 := O0.nv
  have n1 := O1.nv
  have m0 := O0.ni
  have m1 := O1.ni
  simp [Value.ownBlock] at n0 n1 m0 m1
  have b0 := O0.base
  have b1 := O1.base
  have t0 := O0.lt
  have t1 := O1.lt
  have k0 := O0.blk
  have k1 := O1.blk
  refine ⟨gv, cv, gi, ci, ob 0, ob 1, rfl, ⟨hS.r1.lt, ⟨by omega, hgv'⟩, ⟨by omega, hgi'⟩, ⟨by omega, t0⟩, ⟨by omega, t1⟩, ⟨dd, n0, n1, m0, m1, e01⟩, cv' 0 (by decide), cv' 1 (by decide), hS.r1.cell (i := 0) (by omega), hS.r1.cell (i := 1) (by omega), hS.r1.cell (i := 2) (by omega), ?_, ?_, ?_, ?_, ?_, ?_, ?_, ?_, ?_, ?_, ?_, ?_, ?_, ?_, ?_, ?_, ?_, ?_, ?_, ?_, ?_, zv, zi, fun j => blk_frozenL k1 j, hS.r1.frozen⟩, hb⟩
  · exact ci' 0 (show _ < 6 by omega)
  · exact ci' 1 (show _ < 6 by omega)
  · exact ci' 2 (show _ < 6 by omega)
  · exact ci' 3 (show _ < 6 by omega)
  · exact ci' 4 (show _ < 6 by omega)
  · exact ci' 5 (show _ < 6 by omega)
  · exact blk_cellL k0 0 (by decide)
  · exact blk_cellL k0 1 (by decide)
  · exact blk_cellL k0 2 (by decide)
  · exact blk_cellL k0 3 (by decide)
  · exact blk_cellL k0 4 (by decide)
  · exact blk_cellL k1 0 (by decide)
  · exact blk_cellL k1 1 (by decide)
  · exact blk_cellL k1 2 (by decide)
  · exact blk_cellL k1 3 (by decide)
  · exact blk_cellL k1 4 (by decide)
  · exact blk_cellL k1 5 (by decide)
  · exact blk_cellL k1 6 (by decide)
  · exact blk_cellL k1 7 (by decide)
  · exact blk_cellL k1 8 (by decide)
  · exact blk_cellL k1 9 (by decide)

theorem L2.below {M gv cv gi ci o0 o1 : Nat} {w w' : World} (h : L2 M gv cv gi ci o0 o1 w) (hb : Below w.heap.size w w') : L2 M gv cv gi ci o0 o1 w' := by
  have kv : ∀ j, w'.cell? ⟨gv, j, none⟩ = w.cell? ⟨gv, j, none⟩ := fun j => hb.cell h.lv.2
  have kB : ∀ j, w'.cell? ⟨M + 1, j, none⟩ = w.cell? ⟨M + 1, j, none⟩ := fun j => hb.cell h.lB
  have ki : ∀ j, w'.cell? ⟨gi, j, none⟩ = w.cell? ⟨gi, j, none⟩ := fun j => hb.cell h.li.2
  have k0 : ∀ j, w'.cell? ⟨o0, j, none⟩ = w.cell? ⟨o0, j, none⟩ := fun j => hb.cell h.l0.2
  have k1 : ∀ j, w'.cell? ⟨o1, j, none⟩ = w.cell? ⟨o1, j, none⟩ := fun j => hb.cell h.l1.2
  have z := hb.size
  exact ⟨Nat.lt_of_lt_of_le h.lB z, ⟨h.lv.1, Nat.lt_of_lt_of_le h.lv.2 z⟩, ⟨h.li.1, Nat.lt_of_lt_of_le h.li.2 z⟩, ⟨h.l0.1, Nat.lt_of_lt_of_le h.l0.2 z⟩, ⟨h.l1.1, Nat.lt_of_lt_of_le h.l1.2 z⟩, h.d, (kv 0).trans h.v0, (kv 1).trans h.v1, (kB 0).trans h.b0, (kB 1).trans h.b1, (kB 2).trans h.b2, (ki 0).trans h.i0, (ki 1).trans h.i1, (ki 2).trans h.i2, (ki 3).trans h.i3, (ki 4).trans h.i4, (ki 5).trans h.i5, (k0 0).trans h.p0, (k0 1).trans h.p1, (k0 2).trans h.p2, (k0 3).trans h.p3, (k0 4).trans h.p4, (k1 0).trans h.q0, (k1 1).trans h.q1, (k1 2).trans h.q2, (k1 3).trans h.q3, (k1 4).trans h.q4, (k1 5).trans h.q5, (k1 6).trans h.q6, (k1 7).trans h.q7, (k1 8).trans h.q8, (k1 9).trans h.q9, fun j => (hb.frozen h.lv.2).trans (h.zv j), fun j => (hb.frozen h.li.2).trans (h.zi j), fun j => (hb.frozen h.l1.2).trans (h.z1 j), fun j => (hb.frozen h.lB).trans (h.zB j)⟩

theorem big_any (w : World) :
    Calls Try.prog 16 #[] w fun e w' => e = .returned (.agg #[.int .i64 10, .int .i64 10]) ∧ Below w.heap.size w w' := by
  have pm : pickedOf 8 9 = 8 := by decide
  go_enter Try.func16, Try.ntmps16
  go_wp2_with fail
  refine (machine_any 8 8 _ (by omega) (by omega) (by omega) (by omega)).mono ?_
  rintro e w1 ⟨rfl, hb1⟩
  rw [pm]
  have c0 : w1.cell? ⟨w.heap.size, 0, none⟩ = some (.int .i64 0) := (hb1.cell (by simp)).trans (by go_simp)
  have c1 : w1.cell? ⟨w.heap.size, 1, none⟩ = some (.int .i64 0) := (hb1.cell (by simp)).trans (by go_simp)
  have z0 : w1.frozen? ⟨w.heap.size, 0, none⟩ = false := (hb1.frozen (by simp)).trans (by go_simp)
  have z1 : w1.frozen? ⟨w.heap.size, 1, none⟩ = false := (hb1.frozen (by simp)).trans (by go_simp)
  have hbw : Below w.heap.size w w1 := ((Below.refl _ _).alloc (Nat.le_refl _) _).trans (hb1.mono (by simp))
  obtain ⟨W, hW⟩ : ∃ W, W = (w1.setCell ⟨w.heap.size, 0, none⟩ (.int .i64 10)).setCell ⟨w.heap.size, 1, none⟩ (.int .i64 10) := ⟨_, rfl⟩
  have hbW : Below w.heap.size w W := by rw [hW]; exact (hbw.setCell (by simp) _).setCell (by simp) _
  have d0 : W.cell? ⟨w.heap.size, 0, none⟩ = some (.int .i64 10) := by rw [hW]; go_simp
  have d1 : W.cell? ⟨w.heap.size, 1, none⟩ = some (.int .i64 10) := by rw [hW]; go_simp
  have HW : Hid (W = (w1.setCell ⟨w.heap.size, 0, none⟩ (.int .i64 10)).setCell ⟨w.heap.size, 1, none⟩ (.int .i64 10)) := hW
  clear hW
  go_wp2
  rw [← HW.out]
  exact bodyPost_ret (v := .agg #[.int .i64 10, .int .i64 10]) (by simp [results, Try.results16, go_sem, d0, d1]) rfl ⟨rfl, hbW⟩
end Go.Proofs.Ytengmgdnpojfjaa
