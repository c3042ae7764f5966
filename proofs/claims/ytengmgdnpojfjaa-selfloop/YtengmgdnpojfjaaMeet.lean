/-
  The contracts of 'Meet' and of the statement's own 'operand': what each answers, for all arguments; none writes to what was there.
-/
import Derived.Test.YtengmgdnpojfjaaRows
import Derived.WalkKit
import Derived.WalkSpells
import Derived.WalkLawsBesides
import Derived.Below
import Derived.Test.YtengmgdnpojfjaaMach
namespace Go.Proofs.Ytengmgdnpojfjaa
open Go.RowKit
set_option linter.unusedVariables false

def meetB (k1 v1 : Int) (l1 : Bool) (k2 v2 : Int) (l2 : Bool) : Bool :=
  if k1 = 1 ∧ k2 = 1 then v1 != v2 else if k1 = 2 ∧ k2 = 2 then true else if k1 = 1 ∧ k2 = 2 then l1 || !l2 else if k1 = 2 ∧ k2 = 1 then l2 || !l1 else false

theorem meetB_comm (k1 v1 : Int) (l1 : Bool) (k2 v2 : Int) (l2 : Bool) : meetB k1 v1 l1 k2 v2 l2 = meetB k2 v2 l2 k1 v1 l1 := by
  unfold meetB
  by_cases a : k1 = 1
  · subst a
    by_cases b : k2 = 1
    · subst b
      rw [Bool.eq_iff_iff]
      simp
      omega
    · by_cases c : k2 = 2
      · subst c; simp
      · simp [b, c]
  · by_cases b : k1 = 2
    · subst b
      by_cases c : k2 = 1
      · subst c; simp
      · by_cases d : k2 = 2
        · subst d; simp
        · simp [c, d]
    · simp [a, b]

abbrev operV (k v : Int) (l : Bool) (lim n : Int) : Value := .agg #[.int .i64 k, .int .i64 v, .bool l, .int .i64 lim, .int .i64 n]
abbrev operCells (k v : Int) (l : Bool) (lim n : Int) : Array Value := #[.int .i64 k, .int .i64 v, .bool l, .int .i64 lim, .int .i64 n]


theorem meet_exact (k1 v1 : Int) (l1 : Bool) (m1 n1 k2 v2 : Int) (l2 : Bool) (m2 n2 : Int) (w : World) :
    Calls Try.prog 85 #[operV k1 v1 l1 m1 n1, operV k2 v2 l2 m2 n2] w fun e w' => e = .returned (.bool (meetB k1 v1 l1 k2 v2 l2)) ∧ w' = (w.alloc (.cells (operCells k1 v1 l1 m1 n1) 43)).alloc (.cells (operCells k2 v2 l2 m2 n2) 43) := by
  by_cases a : k1 = 1
  · subst a
    by_cases b : k2 = 1
    · subst b
      have E : Hid ((v1 != v2) = meetB 1 v1 l1 1 v2 l2) := by show _ = _; simp [meetB]
      go_enter Try.func85, Try.ntmps85
      go_wp2
      go_ret
      exact ⟨ret_bool E.out, rfl⟩
    · by_cases c : k2 = 2
      · subst c
        have E : Hid ((l1 || !l2) = meetB 1 v1 l1 2 v2 l2) := by show _ = _; simp [meetB]
        cases l1
        · go_enter Try.func85, Try.ntmps85
          go_wp2
          go_ret
          exact ⟨ret_bool (by rw [← E.out]; simp), rfl⟩
        · go_enter Try.func85, Try.ntmps85
          go_wp2
          go_ret
          exact ⟨ret_bool (by rw [← E.out]; simp), rfl⟩
      · have E : Hid (false = meetB 1 v1 l1 k2 v2 l2) := by show _ = _; simp [meetB, b, c]
        have b' : (k2 == 1) = false := by simpa using b
        have c' : (k2 == 2) = false := by simpa using c
        clear b c
        go_enter Try.func85, Try.ntmps85
        go_wp2
        go_ret
        exact ⟨ret_bool E.out, rfl⟩
  · by_cases b : k1 = 2
    · subst b
      by_cases c : k2 = 2
      · subst c
        have E : Hid (true = meetB 2 v1 l1 2 v2 l2) := by show _ = _; simp [meetB]
        go_enter Try.func85, Try.ntmps85
        go_wp2
        go_ret
        exact ⟨ret_bool E.out, rfl⟩
      · by_cases d : k2 = 1
        · subst d
          have E : Hid ((l2 || !l1) = meetB 2 v1 l1 1 v2 l2) := by show _ = _; simp [meetB]
          cases l2
          · go_enter Try.func85, Try.ntmps85
            go_wp2
            go_ret
            exact ⟨ret_bool (by rw [← E.out]; simp), rfl⟩
          · go_enter Try.func85, Try.ntmps85
            go_wp2
            go_ret
            exact ⟨ret_bool (by rw [← E.out]; simp), rfl⟩
        · have E : Hid (false = meetB 2 v1 l1 k2 v2 l2) := by show _ = _; simp [meetB, c, d]
          have b' : (k2 == 1) = false := by simpa using d
          have c' : (k2 == 2) = false := by simpa using c
          clear c d
          go_enter Try.func85, Try.ntmps85
          go_wp2
          go_ret
          exact ⟨ret_bool E.out, rfl⟩
    · have E : Hid (false = meetB k1 v1 l1 k2 v2 l2) := by show _ = _; simp [meetB, a, b]
      have a' : (k1 == 1) = false := by simpa using a
      have b' : (k1 == 2) = false := by simpa using b
      clear a b
      go_enter Try.func85, Try.ntmps85
      go_wp2
      go_ret
      exact ⟨ret_bool E.out, rfl⟩
theorem meet_any (k1 v1 : Int) (l1 : Bool) (m1 n1 k2 v2 : Int) (l2 : Bool) (m2 n2 : Int) (w : World) :
    Calls Try.prog 85 #[operV k1 v1 l1 m1 n1, operV k2 v2 l2 m2 n2] w fun e w' => e = .returned (.bool (meetB k1 v1 l1 k2 v2 l2)) ∧ Below w.heap.size w w' := by
  refine (meet_exact k1 v1 l1 m1 n1 k2 v2 l2 m2 n2 w).mono ?_
  rintro e w' ⟨rfl, rfl⟩
  exact ⟨rfl, ((Below.refl _ _).alloc (Nat.le_refl _) _).alloc (by simp) _⟩
end Go.Proofs.Ytengmgdnpojfjaa
