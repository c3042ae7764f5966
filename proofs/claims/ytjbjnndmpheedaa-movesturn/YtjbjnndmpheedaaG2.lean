/-
  The statements' own 'op', 'def', 'use', 'reg', 'slot', 'big'; a slice that was just laid.
-/
import Derived.Test.YtjbjnndmpheedaaA4
import Derived.Deep.OwnRows
namespace Go.Proofs.Ytjbjnndmpheedaa
open Go.RowKit
set_option linter.unusedVariables false

theorem def_any (v : Int) (w : World) :
    Calls Try.prog 24 #[.int .i64 v] w fun e w' => e = .returned (.agg #[.int .i64 2, .int .i64 v, .bool true, .int .i64 1, .int .i64 0]) ∧ w' = w.alloc (.cells #[.int .i64 2, .int .i64 v, .bool true, .int .i64 1, .int .i64 0] 78) := by
  go_enter Try.func24, Try.ntmps24
  go_wp2
  exact bodyPost_ret (v := .agg #[.int .i64 2, .int .i64 v, .bool true, .int .i64 1, .int .i64 0]) (by simp [results, Try.results24, go_sem]) rfl ⟨rfl, rfl⟩
theorem use_any (v : Int) (w : World) :
    Calls Try.prog 25 #[.int .i64 v] w fun e w' => e = .returned (.agg #[.int .i64 1, .int .i64 v, .bool false, .int .i64 1, .int .i64 0]) ∧ w' = w.alloc (.cells #[.int .i64 1, .int .i64 v, .bool false, .int .i64 1, .int .i64 0] 78) := by
  go_enter Try.func25, Try.ntmps25
  go_wp2
  exact bodyPost_ret (v := .agg #[.int .i64 1, .int .i64 v, .bool false, .int .i64 1, .int .i64 0]) (by simp [results, Try.results25, go_sem]) rfl ⟨rfl, rfl⟩
theorem op_any (n : Int) (b k c : Nat) (w : World) :
    Calls Try.prog 13 #[.int .i64 n, .slice (some ⟨b, 0, none⟩) k c] w fun e w' => e = .returned (.agg #[.int .i64 n, .slice (some ⟨b, 0, none⟩) k c, .slice none 0 0]) ∧ w' = w.alloc (.cells #[.int .i64 n, .slice (some ⟨b, 0, none⟩) k c, .slice none 0 0] 45) := by
  go_enter Try.func13, Try.ntmps13
  go_wp2
  exact bodyPost_ret (v := .agg #[.int .i64 n, .slice (some ⟨b, 0, none⟩) k c, .slice none 0 0]) (by simp [results, Try.results13, go_sem]) rfl ⟨rfl, rfl⟩

theorem op_weak (n : Int) (b k c : Nat) (w : World) :
    Calls Try.prog 13 #[.int .i64 n, .slice (some ⟨b, 0, none⟩) k c] w fun e w' => e = .returned (.agg #[.int .i64 n, .slice (some ⟨b, 0, none⟩) k c, .slice none 0 0]) ∧ Below w.heap.size w w' := by
  refine (op_any n b k c w).mono ?_
  rintro e w' ⟨h1, h2⟩
  exact ⟨h1, by rw [h2]; exact (Below.refl _ _).alloc (Nat.le_refl _) _⟩
theorem def_weak (v : Int) (w : World) : Calls Try.prog 24 #[.int .i64 v] w fun e w' => e = .returned (.agg #[.int .i64 2, .int .i64 v, .bool true, .int .i64 1, .int .i64 0]) ∧ Below w.heap.size w w' := by
  refine (def_any v w).mono ?_
  rintro e w' ⟨h1, h2⟩
  exact ⟨h1, by rw [h2]; exact (Below.refl _ _).alloc (Nat.le_refl _) _⟩
theorem use_weak (v : Int) (w : World) : Calls Try.prog 25 #[.int .i64 v] w fun e w' => e = .returned (.agg #[.int .i64 1, .int .i64 v, .bool false, .int .i64 1, .int .i64 0]) ∧ Below w.heap.size w w' := by
  refine (use_any v w).mono ?_
  rintro e w' ⟨h1, h2⟩
  exact ⟨h1, by rw [h2]; exact (Below.refl _ _).alloc (Nat.le_refl _) _⟩
theorem op_bare (n : Int) (w : World) :
    Calls Try.prog 13 #[.int .i64 n, .slice none 0 0] w fun e w' => e = .returned (.agg #[.int .i64 n, .slice none 0 0, .slice none 0 0]) ∧ Below w.heap.size w w' := by
  have hb : Below w.heap.size w (w.alloc (.cells #[.int .i64 n, .slice none 0 0, .slice none 0 0] 45)) := (Below.refl _ _).alloc (Nat.le_refl _) _
  go_enter Try.func13, Try.ntmps13
  go_wp2
  exact bodyPost_ret (v := .agg #[.int .i64 n, .slice none 0 0, .slice none 0 0]) (by simp [results, Try.results13, go_sem]) rfl ⟨rfl, hb⟩
theorem reg_any (n : Int) (w : World) :
    Calls Try.prog 9 #[.int .i64 n] w fun e w' => e = .returned (.agg #[.int .i64 1, .int .i64 0, .int .i64 n]) ∧ Below w.heap.size w w' := by
  have hb : Below w.heap.size w (w.alloc (.cells #[.int .i64 1, .int .i64 0, .int .i64 n] 37)) := (Below.refl _ _).alloc (Nat.le_refl _) _
  go_enter Try.func9, Try.ntmps9
  go_wp2
  exact bodyPost_ret (v := .agg #[.int .i64 1, .int .i64 0, .int .i64 n]) (by simp [results, Try.results9, go_sem]) rfl ⟨rfl, hb⟩
theorem slot_any (n : Int) (w : World) :
    Calls Try.prog 11 #[.int .i64 n] w fun e w' => e = .returned (.agg #[.int .i64 2, .int .i64 0, .int .i64 n]) ∧ Below w.heap.size w w' := by
  have hb : Below w.heap.size w (w.alloc (.cells #[.int .i64 2, .int .i64 0, .int .i64 n] 37)) := (Below.refl _ _).alloc (Nat.le_refl _) _
  go_enter Try.func11, Try.ntmps11
  go_wp2
  exact bodyPost_ret (v := .agg #[.int .i64 2, .int .i64 0, .int .i64 n]) (by simp [results, Try.results11, go_sem]) rfl ⟨rfl, hb⟩
set_option maxHeartbeats 4000000 in
theorem big_any (w : World) :
    Calls Try.prog 15 #[] w fun e w' => e = .returned (.agg #[.int .i64 10, .int .i64 10]) ∧ Below w.heap.size w w' := by
  have pm : pickedOf 8 9 = 8 := by decide
  go_enter Try.func15, Try.ntmps15
  go_wp2_with fail
  refine (machine_any 8 8 _ (by omega) (by omega) (by omega) (by omega)).mono ?_
  rintro e w1 ⟨rfl, hb1⟩
  rw [pm]
  have c0 : w1.cell? ⟨w.heap.size, 0, none⟩ = some (.int .i64 0) := (hb1.cell (by simp)).trans (by go_simp)
  have c1 : w1.cell? ⟨w.heap.size, 1, none⟩ = some (.int .i64 0) := (hb1.cell (by simp)).trans (by go_simp)
  have z0 : w1.frozen? ⟨w.heap.size, 0, none⟩ = false := (hb1.frozen (by simp)).trans (by go_simp)
  have z1 : w1.frozen? ⟨w.heap.size, 1, none⟩ = false := (hb1.frozen (by simp)).trans (by go_simp)
  have hbw : Below w.heap.size w w1 := ((Below.refl _ _).alloc (Nat.le_refl _) _).trans (hb1.mono (by simp))
  obtain ⟨W, hW⟩ : ∃ W, W = (w1.setCell ⟨w.heap.size, 0, none⟩ (.int .i64 10)).setCell ⟨w.heap.size, 1, none⟩ (.int .i64 10) := ⟨_, rfl⟩
  have hbW : Below w.heap.size w W := by rw [hW]; exact (hbw.setCell (by simp) _).setCell (by simp) _
  have d0 : W.cell? ⟨w.heap.size, 0, none⟩ = some (.int .i64 10) := by rw [hW]; go_simp
  have d1 : W.cell? ⟨w.heap.size, 1, none⟩ = some (.int .i64 10) := by rw [hW]; go_simp
  have HW : Hid (W = (w1.setCell ⟨w.heap.size, 0, none⟩ (.int .i64 10)).setCell ⟨w.heap.size, 1, none⟩ (.int .i64 10)) := hW
  clear hW
  go_wp2
  rw [← HW.out]
  exact bodyPost_ret (v := .agg #[.int .i64 10, .int .i64 10]) (by simp [results, Try.results15, go_sem, d0, d1]) rfl ⟨rfl, hbW⟩
theorem flat_atL {β : Type} (k : Nat) : ∀ (l : List (List β)) (i j : Nat) (hi : i < l.length), (∀ x ∈ l, x.length = k) → j < k → l.flatten[i * k + j]? = l[i][j]?
  | [], i, j, hi, _, _ => by simp at hi
  | x :: r, 0, j, _, hk, hj => by
    simp only [List.flatten_cons, Nat.zero_mul, Nat.zero_add, List.getElem_cons_zero]
    rw [List.getElem?_append_left (by rw [hk x (by simp)]; exact hj)]
  | x :: r, i + 1, j, hi, hk, hj => by
    have e : (i + 1) * k + j = k + (i * k + j) := by rw [Nat.succ_mul]; omega
    have h := flat_atL k r i j (by simpa using hi) (fun y hy => hk y (by simp [hy])) hj
    rw [List.flatten_cons, e, List.getElem?_append_right (by rw [hk x (by simp)]; omega), hk x (by simp), Nat.add_sub_cancel_left, h]
    rfl
theorem sl_newL {α : Type} {w : World} {k n c : Nat} {R : List Value → α → Prop} {cs : Array Value} {t : Nat} (css : List (List Value)) (l : List α) (hn : l.length = n) (hcs : cs.toList = css.flatten) (hl : css.length = l.length) (hk : ∀ x ∈ css, x.length = k) (hR : ∀ i (h : i < css.length) (h' : i < l.length), R css[i] l[i]) (hlong : n ≤ longest) : SlOf (w.alloc (.cells cs t)) k R (.slice (some ⟨w.heap.size, 0, none⟩) n c) l := by
  subst hn
  refine ⟨_, c, rfl, hlong, Or.inr ⟨w.heap.size, 0, rfl, fun i hi => ?_⟩⟩
  have hi' : i < css.length := by omega
  refine ⟨css[i], hk _ (List.getElem_mem hi'), hR i hi' hi, fun j hj => ?_⟩
  have hjk : j < k := by rw [← hk _ (List.getElem_mem hi')]; exact hj
  have h := flat_atL k css i j hi' hk hjk
  rw [← hcs, List.getElem?_eq_getElem hj] at h
  have e : (w.alloc (.cells cs t)).heap[w.heap.size]? = some (.cells cs t) := heap_alloc_new w _
  simp only [World.cell?, e, Nat.zero_add]
  simpa using h

end Go.Proofs.Ytjbjnndmpheedaa
