/-
  The contracts of mach's 'at' and 'nextJunk': a place's cell, and the junk that is next.
-/
import Derived.Test.YtjbjnndmpheedaaM0
import Derived.Test.YtjbjnndmpheedaaR1
import Derived.Test.YtjbjnndmpheedaaC1
import Derived.Test.YtjbjnndmpheedaaA5
import Derived.Deep.OwnRows
import Derived.Deep.QuietTactic
import Derived.BigQuiet
namespace Go.Proofs.Ytjbjnndmpheedaa
open Go.RowKit
set_option linter.unusedVariables false

set_option maxHeartbeats 4000000 in
theorem at_reg (X o n : Nat) (c : Int) (hc : c = 0 ∨ c = 1) (hn : n < 11) (w : World) :
    Calls Try.prog 62 #[.pointer (some ⟨X, o, none⟩), .agg #[.int .i64 1, .int .i64 c, .int .i64 (n : Int)]] w fun e w' => e = .returned (.pointer (some ⟨X, o + (c.toNat * 11 + n), none⟩)) ∧ Below w.heap.size w w' := by
  have hb : Below w.heap.size w (w.alloc (.cells #[.int .i64 1, .int .i64 c, .int .i64 (n : Int)] 37)) := (Below.refl _ _).alloc (Nat.le_refl _) _
  have hn2 : (n : Int) < 11 := by omega
  rcases hc with rfl | rfl
  · go_enter Try.func62, Try.ntmps62
    go_upto_region 2 with fail
    go_quiet (fail)
    go_wp2
    go_ret
    exact ⟨by simp, below_drewN hb _⟩
  · go_enter Try.func62, Try.ntmps62
    go_upto_region 2 with fail
    go_quiet (fail)
    go_wp2
    go_ret
    exact ⟨by simp, below_drewN hb _⟩
set_option maxHeartbeats 4000000 in
theorem at_slot (X o n ns cs : Nat) (as' : Option Addr) (g off : Nat) (c : Int) (ha : as' = some ⟨g, off, none⟩) (hn : n < ns) (hns : ns ≤ 1000) (w : World) (h : w.cell? ⟨X, o + 22, none⟩ = some (.slice as' ns cs)) :
    Calls Try.prog 62 #[.pointer (some ⟨X, o, none⟩), .agg #[.int .i64 2, .int .i64 c, .int .i64 (n : Int)]] w fun e w' => e = .returned (.pointer (some ⟨g, off + n, none⟩)) ∧ Below w.heap.size w w' := by
  subst ha
  have hb : Below w.heap.size w (w.alloc (.cells #[.int .i64 2, .int .i64 c, .int .i64 (n : Int)] 37)) := (Below.refl _ _).alloc (Nat.le_refl _) _
  have hX := block_lt h
  have L := old_cell X
  have hn2 : (n : Int) < (ns : Int) := by omega
  go_enter Try.func62, Try.ntmps62
  go_upto_region 3 with fail
  go_quiet (fail)
  go_wp2
  go_ret
  exact ⟨by simp, below_drewN hb _⟩

theorem mg_below {w w' : World} {r : Option Nat} (h : Below w.heap.size w w') : w.grownBy w' r := ⟨h.os, h.tape, h.output, h.size, fun b hb _ => h.block b hb⟩
theorem mg_trans {w w1 w2 : World} {r : Option Nat} (h : w.grownBy w1 r) (h2 : w1.grownBy w2 r) : w.grownBy w2 r := ⟨h2.os.trans h.os, h2.tape.trans h.tape, h2.output.trans h.output, Nat.le_trans h.size h2.size, fun k hk hn => (h2.block k (Nat.lt_of_lt_of_le hk h.size) hn).trans (h.block k hk hn)⟩
theorem mg_set {w : World} {Y i : Nat} {v : Value} : w.grownBy (w.setCell ⟨Y, i, none⟩ v) (some Y) :=
  ⟨rfl, rfl, rfl, by simp [World.setCell], fun k _ hn => Below.heap_setCell _ _ _ _ (fun e => hn (by rw [e]))⟩
theorem mg_low {w w' : World} {B Y : Nat} (h : w.grownBy w' (some Y)) (hB : B ≤ w.heap.size) (hY : B ≤ Y) : Below B w w' := ⟨h.os, h.tape, h.output, h.size, fun b hb => h.block b (by omega) (fun e => by simp at e; omega)⟩
theorem mg_cell {w w' : World} {Y b o : Nat} {v : Value} (h : w.grownBy w' (some Y)) (hb : b ≠ Y) (hc : w.cell? ⟨b, o, none⟩ = some v) : w'.cell? ⟨b, o, none⟩ = some v :=
  (World.cell?_of_block (a := ⟨b, o, none⟩) (h.block b (block_lt hc) (fun e => hb (by simpa using e)))).trans hc
theorem rem_next (k n : Nat) (h : k < n) : ((k : Int) + 1).tmod (n : Int) = (((k + 1) % n : Nat) : Int) := by
  rw [Int.tmod_eq_emod_of_nonneg (by omega)]
  first | exact (Int.natCast_emod (k + 1) n).symm | exact (Int.natCast_mod (k + 1) n).symm | simp

set_option maxHeartbeats 8000000 in
theorem nextJunk_any (X o k nj cj T nr : Nat) (aj : Option Addr) (l : List Int) (f : Nat → Value) (w : World) (hr : w.rowIs X T nr f) (ho : o + 24 < nr) (f23 : f (o + 23) = .slice aj nj cj) (f24 : f (o + 24) = .int .i64 (k : Int)) (hl : SlOf w 1 RInt (.slice aj nj cj) l) (hln : l.length = nj) (hk : nj = 0 ∨ k < nj) (hnj : nj ≤ 64) :
    Calls Try.prog 41 #[.pointer (some ⟨X, o, none⟩)] w fun e w' => e = .returned (.int .i64 (l.getD k 0)) ∧ w'.rowIs X T nr (fun i => if i = o + 24 then .int .i64 (((if nj = 0 then k else (k + 1) % nj) : Nat) : Int) else f i) ∧ w.grownBy w' (some X) := by
  have c23 : w.cell? ⟨X, o + 23, none⟩ = some (.slice aj nj cj) := by rw [← f23]; exact hr.cell (by omega)
  have c24 : w.cell? ⟨X, o + 24, none⟩ = some (.int .i64 (k : Int)) := by rw [← f24]; exact hr.cell (by omega)
  by_cases h0 : nj = 0
  · subst h0
    have hl0 : l = [] := List.length_eq_zero_iff.1 hln
    subst hl0
    have HR : Hid (w.rowIs X T nr (fun i => if i = o + 24 then .int .i64 (((if 0 = 0 then k else (k + 1) % 0) : Nat) : Int) else f i)) := hr.congr fun i hi => by
      by_cases e : i = o + 24
      · rw [if_pos e, e, f24]; rfl
      · rw [if_neg e]
    clear hl hr f23 f24 hk
    go_enter Try.func41, Try.ntmps41
    go_wp2
    go_ret
    exact ⟨rfl, HR.out, ⟨rfl, rfl, rfl, Nat.le_refl _, fun _ _ _ => rfl⟩⟩
  · have hkn : k < nj := hk.resolve_left h0
    obtain ⟨b, off, rfl, hb, e0⟩ := ru_at hl k (by omega)
    have z24 := hr.frozen (o + 24)
    have lX := hr.lt
    have hk2 : (k : Int) < (nj : Int) := by omega
    have q : ((nj : Int) == 0) = false := by simpa using h0
    have j1 : IntKind.i64.wrap ((k : Int) + 1) = (k : Int) + 1 := by rw [IntKind.wrap_i64]; omega
    have j2 := rem_next k nj hkn
    have hnz : ¬ (nj : Int) = 0 := by omega
    have HR : Hid (∀ w1 : World, w1.heap = w.heap → (w1.setCell ⟨X, o + 24, none⟩ (.int .i64 (((k + 1) % nj : Nat) : Int))).rowIs X T nr (fun i => if i = o + 24 then .int .i64 (((if nj = 0 then k else (k + 1) % nj) : Nat) : Int) else f i)) := fun w1 h1 => by
      rw [if_neg h0]
      exact (hr.of_block (by rw [h1])).set (o + 24) _
    generalize l.getD k 0 = x at *
    clear hl hr f23 f24 hk
    go_enter Try.func41, Try.ntmps41
    go_upto_region 3 with fail
    go_quiet (fail)
    go_upto_region 4 with fail
    have e23 := c23
    have e24 := c24
    refine wp_region_X (fun w' => w'.cell? ⟨X, o + 23, none⟩ = some (.slice (some ⟨b, off, none⟩) nj cj) ∧ w'.cell? ⟨X, o + 24, none⟩ = some (.int .i64 (k : Int))) 14 (by kernel_rfl) ⟨e23, e24⟩ (fun hHeld => ?_)
    refine wpXt (v := ?_) 0 rfl (by kernel_rfl) (fun _ _ _ h => h) (by rfl) ?_ hHeld ?_
    rotate_left
    · intro w' hSw
      go_simp <;> with_reducible rfl
    try simp only [Act.put, List.setIfInBounds_toArray, List.set_cons_zero, List.set_cons_succ]
    refine wpXt (v := ?_) 1 rfl (by kernel_rfl) (fun _ _ _ h => h) (by rfl) ?_ hHeld ?_
    rotate_left
    · intro w' hSw
      go_simp <;> with_reducible rfl
    try simp only [Act.put, List.setIfInBounds_toArray, List.set_cons_zero, List.set_cons_succ]
    refine wpXt (v := ?_) 2 rfl (by kernel_rfl) (fun _ _ _ h => h) (by rfl) ?_ hHeld ?_
    rotate_left
    · intro w' hSw
      go_simp <;> with_reducible rfl
    try simp only [Act.put, List.setIfInBounds_toArray, List.set_cons_zero, List.set_cons_succ]
    refine wpXt (v := ?_) 3 rfl (by kernel_rfl) (fun _ _ _ h => h) (by rfl) ?_ hHeld ?_
    rotate_left
    · intro w' hSw
      go_simp <;> with_reducible rfl
    try simp only [Act.put, List.setIfInBounds_toArray, List.set_cons_zero, List.set_cons_succ]
    refine wpXt (v := ?_) 4 rfl (by kernel_rfl) (fun _ _ _ h => h) (by rfl) ?_ hHeld ?_
    rotate_left
    · intro w' hSw
      go_simp <;> with_reducible rfl
    try simp only [Act.put, List.setIfInBounds_toArray, List.set_cons_zero, List.set_cons_succ]
    refine wpXt (v := ?_) 5 rfl (by kernel_rfl) (fun _ _ _ h => h) (by rfl) ?_ hHeld ?_
    rotate_left
    · intro w' hSw
      go_simp <;> with_reducible rfl
    try simp only [Act.put, List.setIfInBounds_toArray, List.set_cons_zero, List.set_cons_succ]
    refine wpXt (v := ?_) 6 rfl (by kernel_rfl) (fun _ _ _ h => h) (by rfl) ?_ hHeld ?_
    rotate_left
    · intro w' hSw
      go_simp <;> with_reducible rfl
    try simp only [Act.put, List.setIfInBounds_toArray, List.set_cons_zero, List.set_cons_succ]
    refine wpXt (v := ?_) 7 rfl (by kernel_rfl) (fun _ _ _ h => h) (by rfl) ?_ hHeld ?_
    rotate_left
    · intro w' hSw
      go_simp <;> with_reducible rfl
    try simp only [Act.put, List.setIfInBounds_toArray, List.set_cons_zero, List.set_cons_succ]
    refine wpXt (v := ?_) 8 rfl (by kernel_rfl) (fun _ _ _ h => h) (by rfl) ?_ hHeld ?_
    rotate_left
    · intro w' hSw
      go_simp <;> with_reducible rfl
    try simp only [Act.put, List.setIfInBounds_toArray, List.set_cons_zero, List.set_cons_succ]
    refine wpXt (v := ?_) 9 rfl (by kernel_rfl) (fun _ _ _ h => h) (by rfl) ?_ hHeld ?_
    rotate_left
    · intro w' hSw
      go_simp <;> with_reducible rfl
    try simp only [Act.put, List.setIfInBounds_toArray, List.set_cons_zero, List.set_cons_succ]
    refine wpXt (v := ?_) 10 rfl (by kernel_rfl) (fun _ _ _ h => h) (by rfl) ?_ hHeld ?_
    rotate_left
    · intro w' hSw
      go_simp <;> with_reducible rfl
    try simp only [Act.put, List.setIfInBounds_toArray, List.set_cons_zero, List.set_cons_succ]
    refine wpXt (v := ?_) 11 rfl (by kernel_rfl) (fun _ _ _ h => h) (by rfl) ?_ hHeld ?_
    rotate_left
    · intro w' hSw
      go_simp <;> with_reducible rfl
    try simp only [Act.put, List.setIfInBounds_toArray, List.set_cons_zero, List.set_cons_succ]
    refine wpXs 12 rfl (by kernel_rfl) (fun K hK => ?_)
    go_simp
    refine hK.out _ _ ⟨e23, e24⟩ (fun hHeld => ?_)
    clear hK K
    try simp only [Act.put, List.setIfInBounds_toArray, List.set_cons_zero, List.set_cons_succ]
    refine wpXt (v := ?_) 13 rfl (by kernel_rfl) (fun _ _ _ h => h) (by rfl) ?_ hHeld ?_
    rotate_left
    · intro w' hSw
      go_simp <;> with_reducible rfl
    try simp only [Act.put, List.setIfInBounds_toArray, List.set_cons_zero, List.set_cons_succ]
    refine wpXl 14 rfl (by kernel_rfl) rfl (by kernel_rfl) (fun K hK => ?_)
    go_simp
    refine hK.out _ _ ?_
    clear hK K

    go_wp2
    go_ret
    refine ⟨rfl, ?_, ?_⟩
    · have h := HR.out (w.drewN (nq + 1)) (by simp)
      simpa [h0] using h
    · exact mg_trans (mg_below (below_drewN (Below.refl _ _) _)) mg_set
end Go.Proofs.Ytjbjnndmpheedaa
