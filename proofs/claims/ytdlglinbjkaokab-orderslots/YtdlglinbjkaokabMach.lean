/-
  The contracts of 'picked', 'CheckMachine', 'In' and 'MachineFault': what each answers, for all arguments that are given; none writes to what was there.
-/
import Derived.Test.YtdlglinbjkaokabRows
import Derived.WalkKit
import Derived.WalkSpells
import Derived.WalkLawsBesides
import Derived.Below
namespace Go.Proofs.Ytdlglinbjkaokab
open Go.RowKit
set_option linter.unusedVariables false

def machErr (x y : Int) : Int := if 2 ≤ x ∧ x ≤ 10 ∧ 2 ≤ y ∧ y ≤ 10 then 0 else 2

def pickedOf (n many : Int) : Int := if n < 0 then (-(n + 1)) % many else n % many

theorem pickedOf_bd (n many : Int) (h0 : 0 < many) : 0 ≤ pickedOf n many ∧ pickedOf n many < many := by
  unfold pickedOf
  split
  · exact ⟨Int.emod_nonneg _ (by omega), Int.emod_lt_of_pos _ h0⟩
  · exact ⟨Int.emod_nonneg _ (by omega), Int.emod_lt_of_pos _ h0⟩

theorem ret_int {k : IntKind} {a b : Int} (h : a = b) : Ending.returned (.int k a) = .returned (.int k b) := by rw [h]

theorem ret_bool {a b : Bool} (h : a = b) : Ending.returned (.bool a) = .returned (.bool b) := by rw [h]

theorem picked_any (n many : Int) (w : World) (hn : -9223372036854775808 ≤ n) (hn' : n ≤ 9223372036854775807) (h0 : 0 < many) (h1 : many ≤ 4611686018427387904) :
    Calls Try.prog 4 #[.int .i64 n, .int .i64 many] w fun e w' => e = .returned (.int .i64 (pickedOf n many)) ∧ w' = w := by
  by_cases h : n < 0
  · have e : pickedOf n many = -(n + 1).tmod many := by
      unfold pickedOf
      rw [if_pos h]
      rw [← Int.neg_tmod]
      exact (Int.tmod_eq_emod_of_nonneg (by omega)).symm
    have E : Hid (pickedOf n many = -(n + 1).tmod many) := e
    clear e
    go_enter Try.func4, Try.ntmps4
    go_wp2
    go_ret
    exact ⟨ret_int E.out.symm, rfl⟩
  · have e : pickedOf n many = n % many := by unfold pickedOf; rw [if_neg h]
    have E : Hid (pickedOf n many = n % many) := e
    clear e
    go_enter Try.func4, Try.ntmps4
    go_wp2
    go_ret
    exact ⟨ret_int E.out.symm, rfl⟩

theorem checkMachine_any (x y : Int) (w : World) :
    Calls Try.prog 9 #[.agg #[.int .i64 x, .int .i64 y]] w fun e w' => e = .returned (.int .i64 (machErr x y)) ∧ Below w.heap.size w w' := by
  have i0 : ∀ w : World, (Instr.index 33 (.agg #[.int .i64 x, .int .i64 y]) (.int .i64 0)).run Try.prog w = .ok (.int .i64 x) w := fun _ => by kernel_rfl
  have i1 : ∀ w : World, (Instr.index 33 (.agg #[.int .i64 x, .int .i64 y]) (.int .i64 1)).run Try.prog w = .ok (.int .i64 y) w := fun _ => by kernel_rfl
  have hx : x < 2 ∨ 10 < x ∨ (2 ≤ x ∧ x ≤ 10) := by omega
  have hy : y < 2 ∨ 10 < y ∨ (2 ≤ y ∧ y ≤ 10) := by omega
  have hb : Below w.heap.size w (w.alloc (.cells #[.int .i64 x, .int .i64 y] 35)) := (Below.refl _ _).alloc (Nat.le_refl _) _
  rcases hx with hx | hx | ⟨hx, hx'⟩
  · have E : Hid (2 = machErr x y) := by show 2 = machErr x y; unfold machErr; rw [if_neg (by omega)]
    clear hy
    go_enter Try.func9, Try.ntmps9
    go_wp2
    refine wp_loop_rounds 3 ?_
    rw [rounds_succ]
    go_wp2
    go_ret
    exact ⟨ret_int E.out, hb⟩
  · have E : Hid (2 = machErr x y) := by show 2 = machErr x y; unfold machErr; rw [if_neg (by omega)]
    clear hy
    go_enter Try.func9, Try.ntmps9
    go_wp2
    refine wp_loop_rounds 3 ?_
    rw [rounds_succ]
    go_wp2
    go_ret
    exact ⟨ret_int E.out, hb⟩
  · rcases hy with hy | hy | ⟨hy, hy'⟩
    · have E : Hid (2 = machErr x y) := by show 2 = machErr x y; unfold machErr; rw [if_neg (by omega)]
      go_enter Try.func9, Try.ntmps9
      go_wp2
      refine wp_loop_rounds 3 ?_
      rw [rounds_succ]
      go_wp2
      rw [rounds_succ]
      go_wp2
      go_ret
      exact ⟨ret_int E.out, hb⟩
    · have E : Hid (2 = machErr x y) := by show 2 = machErr x y; unfold machErr; rw [if_neg (by omega)]
      go_enter Try.func9, Try.ntmps9
      go_wp2
      refine wp_loop_rounds 3 ?_
      rw [rounds_succ]
      go_wp2
      rw [rounds_succ]
      go_wp2
      go_ret
      exact ⟨ret_int E.out, hb⟩
    · have E : Hid (0 = machErr x y) := by show 0 = machErr x y; unfold machErr; rw [if_pos (by omega)]
      go_enter Try.func9, Try.ntmps9
      go_wp2
      refine wp_loop_rounds 3 ?_
      rw [rounds_succ]
      go_wp2
      rw [rounds_succ]
      go_wp2
      rw [rounds_succ]
      go_wp2
      go_ret
      exact ⟨ret_int E.out, hb⟩

end Go.Proofs.Ytdlglinbjkaokab
