/-
  The contracts of 'isClass', 'isValue', 'givable', 'behind' and 'reuses': what each answers; none writes to what was there.
-/
import Derived.Test.YtengmgdnpojfjaaRep
import Derived.WalkSpells
import Derived.WalkLawsBesides
import Derived.Deep.RegionHeld3
import Derived.Deep.QuietTactic
import Derived.BigQuiet
import Derived.Test.YtengmgdnpojfjaaMach
namespace Go.Proofs.Ytengmgdnpojfjaa
open Go.RowKit
set_option linter.unusedVariables false

def isClassB (c : Int) : Bool := decide (0 ≤ c ∧ c < 2)
def isValueB (n : Nat) (v : Int) : Bool := decide (0 ≤ v ∧ v < (n : Int))
def regsOf (m0 m1 c : Int) : Int := if c = 0 then m0 else m1
def givB (m0 m1 c n : Int) : Bool := isClassB c && decide (0 ≤ n ∧ n < regsOf m0 m1 c)

theorem isClass_any (c : Int) (w : World) : Calls Try.prog 49 #[.int .i64 c] w fun e w' => e = .returned (.bool (isClassB c)) ∧ w' = w := by
  by_cases h : 0 ≤ c
  · by_cases h' : c < 2
    · have H : Hid (true = isClassB c) := by show _ = _; simp [isClassB, h, h']
      go_enter Try.func49, Try.ntmps49
      go_wp2
      go_ret
      exact ⟨ret_bool H.out, rfl⟩
    · have H : Hid (false = isClassB c) := by show _ = _; simp [isClassB]; omega
      go_enter Try.func49, Try.ntmps49
      go_wp2
      go_ret
      exact ⟨ret_bool (by rw [← H.out]), rfl⟩
  · have H : Hid (false = isClassB c) := by show _ = _; simp [isClassB]; omega
    go_enter Try.func49, Try.ntmps49
    go_wp2
    go_ret
    exact ⟨ret_bool H.out, rfl⟩

theorem isClass_is (c : Int) (b : Bool) (h : isClassB c = b) (w : World) : Calls Try.prog 49 #[.int .i64 c] w fun e w' => e = .returned (.bool b) ∧ w' = w := by
  rw [← h]; exact isClass_any c w

theorem isValue_any (av : Option Addr) (n cv : Nat) (vb : Value) (m0 m1 v : Int) (w : World) :
    Calls Try.prog 69 #[.agg #[.slice av n cv, vb, .int .i64 m0, .int .i64 m1], .int .i64 v] w fun e w' => e = .returned (.bool (isValueB n v)) ∧ w' = w.alloc (.cells #[.slice av n cv, vb, .int .i64 m0, .int .i64 m1] 84) := by
  by_cases h : 0 ≤ v
  · by_cases h' : v < (n : Int)
    · have H : Hid (true = isValueB n v) := by show _ = _; simp [isValueB, h, h']
      go_enter Try.func69, Try.ntmps69
      go_wp2
      go_ret
      exact ⟨ret_bool H.out, rfl⟩
    · have H : Hid (false = isValueB n v) := by show _ = _; simp [isValueB]; omega
      go_enter Try.func69, Try.ntmps69
      go_wp2
      go_ret
      exact ⟨ret_bool (by rw [← H.out]), rfl⟩
  · have H : Hid (false = isValueB n v) := by show _ = _; simp [isValueB]; omega
    go_enter Try.func69, Try.ntmps69
    go_wp2
    go_ret
    exact ⟨ret_bool H.out, rfl⟩

def behB (c1 n1 c2 n2 : Int) : Bool := decide (c2 < c1 ∨ c1 = c2 ∧ n2 < n1)

theorem behind_any (c1 n1 c2 n2 : Int) (w : World) :
    Calls Try.prog 80 #[.agg #[.int .i64 c1, .int .i64 n1], .agg #[.int .i64 c2, .int .i64 n2]] w fun e w' => e = .returned (.bool (behB c1 n1 c2 n2)) ∧ Below w.heap.size w w' := by
  have hb : Below w.heap.size w ((w.alloc (.cells #[.int .i64 c1, .int .i64 n1] 100)).alloc (.cells #[.int .i64 c2, .int .i64 n2] 100)) := ((Below.refl _ _).alloc (Nat.le_refl _) _).alloc (by simp) _
  by_cases h : c2 < c1
  · have H : Hid (true = behB c1 n1 c2 n2) := by show _ = _; simp [behB, h]
    go_enter Try.func80, Try.ntmps80
    go_wp2
    go_ret
    exact ⟨ret_bool H.out, hb⟩
  · by_cases h' : c1 = c2
    · subst h'
      have H : Hid (decide (n2 < n1) = behB c1 n1 c1 n2) := by show _ = _; simp [behB]
      have g : (c1 == c1) = true := by simp
      go_enter Try.func80, Try.ntmps80
      go_wp2
      all_goals go_ret
      all_goals exact ⟨ret_bool (by rw [← H.out]), hb⟩
    · have H : Hid (false = behB c1 n1 c2 n2) := by show _ = _; simp [behB]; omega
      have g : (c1 == c2) = false := by simpa using h'
      clear h'
      go_enter Try.func80, Try.ntmps80
      go_wp2
      go_ret
      exact ⟨ret_bool H.out, hb⟩

def reusesB (limit n place : Int) : Bool := decide (limit = 5 ∧ n = place)

theorem reuses_any (k v : Int) (l : Bool) (lim n place : Int) (w : World) :
    Calls Try.prog 86 #[.agg #[.int .i64 k, .int .i64 v, .bool l, .int .i64 lim, .int .i64 n], .int .i64 place] w fun e w' => e = .returned (.bool (reusesB lim n place)) ∧ w' = w.alloc (.cells #[.int .i64 k, .int .i64 v, .bool l, .int .i64 lim, .int .i64 n] 43) := by
  by_cases h : lim = 5
  · subst h
    have H : Hid ((n == place) = reusesB 5 n place) := by show _ = _; rw [Bool.eq_iff_iff]; simp [reusesB]
    go_enter Try.func86, Try.ntmps86
    go_wp2
    go_ret
    exact ⟨ret_bool H.out, rfl⟩
  · have g : (lim == 5) = false := by simpa using h
    have H : Hid (false = reusesB lim n place) := by show _ = _; simp [reusesB, h]
    clear h
    go_enter Try.func86, Try.ntmps86
    go_wp2
    go_ret
    exact ⟨ret_bool H.out, rfl⟩

theorem below_drewN {B : Nat} {a w : World} (h : Below B a w) (n : Nat) : Below B a (w.drewN n) := ⟨h.os, h.tape, h.output, h.size, h.block⟩

theorem givable_any (vv vb : Value) (m0 m1 c n : Int) (w : World) :
    Calls Try.prog 79 #[.agg #[vv, vb, .int .i64 m0, .int .i64 m1], .agg #[.int .i64 c, .int .i64 n]] w fun e w' => e = .returned (.bool (givB m0 m1 c n)) ∧ Below w.heap.size w w' := by
  have hb : Below w.heap.size w ((w.alloc (.cells #[vv, vb, .int .i64 m0, .int .i64 m1] 84)).alloc (.cells #[.int .i64 c, .int .i64 n] 100)) := ((Below.refl _ _).alloc (Nat.le_refl _) _).alloc (by simp) _
  cases hc : isClassB c
  · have H : Hid (false = givB m0 m1 c n) := by show _ = _; simp [givB, hc]
    go_enter Try.func79, Try.ntmps79
    go_wp2_with fail
    go_quiet ((go_at_call 49; exact Calls.quiet_of_same (isClass_is c false hc _)))
    go_wp2
    go_ret
    exact ⟨ret_bool H.out, below_drewN hb _⟩
  · have hc' : 0 ≤ c ∧ c < 2 := by simpa [isClassB] using hc
    obtain ⟨hc0, hc2⟩ := hc'
    by_cases h1 : 0 ≤ n
    · have hd : decide (0 ≤ n) = true := by simpa using h1
      have H : Hid (decide (n < regsOf m0 m1 c) = givB m0 m1 c n) := by show _ = _; simp [givB, hc, h1]
      have hcc : c = 0 ∨ c = 1 := by omega
      rcases hcc with rfl | rfl
      · have H' : Hid (decide (n < m0) = givB m0 m1 0 n) := H
        clear H
        go_enter Try.func79, Try.ntmps79
        go_wp2_with fail
        go_quiet ((go_at_call 49; exact Calls.quiet_of_same (isClass_is _ true hc _)))
        go_wp2
        go_ret
        exact ⟨ret_bool H'.out, below_drewN hb _⟩
      · have H' : Hid (decide (n < m1) = givB m0 m1 1 n) := H
        clear H
        go_enter Try.func79, Try.ntmps79
        go_wp2_with fail
        go_quiet ((go_at_call 49; exact Calls.quiet_of_same (isClass_is _ true hc _)))
        go_wp2
        go_ret
        exact ⟨ret_bool H'.out, below_drewN hb _⟩
    · have hd : decide (0 ≤ n) = false := by simpa using h1
      have H : Hid (false = givB m0 m1 c n) := by show _ = _; simp [givB]; omega
      go_enter Try.func79, Try.ntmps79
      go_wp2_with fail
      go_quiet ((go_at_call 49; exact Calls.quiet_of_same (isClass_is _ true hc _)))
      go_wp2
      go_ret
      exact ⟨ret_bool H.out, below_drewN hb _⟩
end Go.Proofs.Ytengmgdnpojfjaa
