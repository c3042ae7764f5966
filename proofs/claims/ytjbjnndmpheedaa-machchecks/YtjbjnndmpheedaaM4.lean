/-
  The contracts of the reference's 'placeMay' and 'OutputFault' (P5.1, P5.2).
-/
import Derived.Test.YtjbjnndmpheedaaM1
import Derived.Test.YtjbjnndmpheedaaC10
namespace Go.Proofs.Ytjbjnndmpheedaa
open Go.RowKit
set_option linter.unusedVariables false

def mayB (m0 m1 fr : Int) (s : Bool) (p : Pl) : Bool := if s = true then moveB m0 m1 fr p else holdB m0 m1 fr p
theorem mayB_slot (m0 m1 fr n : Int) (s : Bool) : mayB m0 m1 fr s ⟨2, 0, n⟩ = inB n 0 (fr - 1) := by
  unfold mayB moveB holdB isRegB isSlotB inB
  rw [Bool.eq_iff_iff]
  cases s <;> simp <;> omega
theorem mayB_slotc (m0 m1 fr c n : Int) (s : Bool) (h : c ≠ 0) : mayB m0 m1 fr s ⟨2, c, n⟩ = false := by
  unfold mayB moveB holdB isRegB isSlotB
  cases s <;> simp [h]
theorem mayB_kind (m0 m1 fr k c n : Int) (s : Bool) (h1 : k ≠ 1) (h2 : k ≠ 2) : mayB m0 m1 fr s ⟨k, c, n⟩ = false := by
  unfold mayB moveB holdB isRegB isSlotB
  cases s <;> simp [h1, h2]
theorem mayB_cls (m0 m1 fr c n : Int) (s : Bool) (h : inB c 0 1 = false) : mayB m0 m1 fr s ⟨1, c, n⟩ = false := by
  have h' : isClassB c = false := by
    unfold inB at h
    unfold isClassB
    rw [decide_eq_false_iff_not] at h ⊢
    omega
  unfold mayB moveB holdB isRegB isSlotB
  cases s <;> simp [h']
theorem mayB_reg0 (m0 m1 fr n : Int) (s : Bool) (h0 : 0 ≤ m0) : mayB m0 m1 fr s ⟨1, 0, n⟩ = (inB n 0 (m0 - 1) || (s && (n == m0))) := by
  unfold mayB moveB holdB isRegB isSlotB inB isClassB regsOf
  rw [Bool.eq_iff_iff]
  cases s <;> simp <;> omega
theorem mayB_reg1 (m0 m1 fr n : Int) (s : Bool) (h0 : 0 ≤ m1) : mayB m0 m1 fr s ⟨1, 1, n⟩ = (inB n 0 (m1 - 1) || (s && (n == m1))) := by
  unfold mayB moveB holdB isRegB isSlotB inB isClassB regsOf
  rw [Bool.eq_iff_iff]
  cases s <;> simp <;> omega

set_option maxHeartbeats 4000000 in
theorem placeMay_any (k c n m0 m1 fr : Int) (s b : Bool) (h : mayB m0 m1 fr s ⟨k, c, n⟩ = b) (hm0 : 0 ≤ m0 ∧ m0 ≤ 1000) (hm1 : 0 ≤ m1 ∧ m1 ≤ 1000) (hf : 0 ≤ fr ∧ fr ≤ 1000) (w : World) :
    Calls Try.prog 23 #[.agg #[.int .i64 m0, .int .i64 m1], .int .i64 fr, .agg #[.int .i64 k, .int .i64 c, .int .i64 n], .bool s] w fun e w' => e = .returned (.bool b) ∧ Below w.heap.size w w' := by
  have hb : Below w.heap.size w ((w.alloc (.cells #[.int .i64 m0, .int .i64 m1] 28)).alloc (.cells #[.int .i64 k, .int .i64 c, .int .i64 n] 37)) := ((Below.refl _ _).alloc (Nat.le_refl _) _).alloc (by simp) _
  have L := old_cell w.heap.size
  have z1 : w.heap.size < w.heap.size + 1 := by omega
  have jf : IntKind.i64.wrap (fr - 1) = fr - 1 := by rw [IntKind.wrap_i64]; omega
  have j0 : IntKind.i64.wrap (m0 - 1) = m0 - 1 := by rw [IntKind.wrap_i64]; omega
  have j1 : IntKind.i64.wrap (m1 - 1) = m1 - 1 := by rw [IntKind.wrap_i64]; omega
  by_cases hk : k = 2
  · subst hk
    by_cases hc : c = 0
    · subst hc
      obtain ⟨b0, hb0⟩ : ∃ b0, inB n 0 (fr - 1) = b0 := ⟨_, rfl⟩
      have H : Hid (b0 = b) := by show _ = _; rw [← h, mayB_slot, hb0]
      clear h
      go_enter Try.func23, Try.ntmps23
      go_wp2_with (go_at_call 22; refine (in_is _ _ _ b0 hb0 _).mono ?_; rintro e w' ⟨rfl, rfl⟩)
      go_ret
      exact ⟨ret_bool H.out, hb⟩
    · have g : (c == 0) = false := by simpa using hc
      have H : Hid (false = b) := by show _ = _; rw [← h, mayB_slotc _ _ _ _ _ _ hc]
      clear h hc
      go_enter Try.func23, Try.ntmps23
      go_wp2
      go_ret
      exact ⟨ret_bool H.out, hb⟩
  have gk : (k == 2) = false := by simpa using hk
  by_cases hk1 : k = 1
  rotate_left
  · have gk1 : (k != 1) = true := by simpa using hk1
    have H : Hid (false = b) := by show _ = _; rw [← h, mayB_kind _ _ _ _ _ _ _ hk1 hk]
    clear h hk hk1
    go_enter Try.func23, Try.ntmps23
    go_wp2
    go_ret
    exact ⟨ret_bool H.out, hb⟩
  subst hk1
  clear hk gk
  obtain ⟨bc, hbc⟩ : ∃ bc, inB c 0 1 = bc := ⟨_, rfl⟩
  cases bc
  · have H : Hid (false = b) := by show _ = _; rw [← h, mayB_cls _ _ _ _ _ _ hbc]
    clear h
    go_enter Try.func23, Try.ntmps23
    go_wp2_with (go_at_call 22; refine (in_is _ _ _ false hbc _).mono ?_; rintro e w' ⟨rfl, rfl⟩)
    go_ret
    exact ⟨ret_bool H.out, hb⟩
  have hcc : c = 0 ∨ c = 1 := by
    unfold inB at hbc
    rw [decide_eq_true_iff] at hbc
    omega

  rcases hcc with rfl | rfl
  · obtain ⟨b0, hb0⟩ : ∃ b0, inB n 0 (m0 - 1) = b0 := ⟨_, rfl⟩
    have H : Hid ((b0 || (s && (n == m0))) = b) := by show _ = _; rw [← h, mayB_reg0 _ _ _ _ _ hm0.1, hb0]
    clear h
    cases b0
    · cases s

      · have H2 : Hid (false = b) := by show _ = _; rw [← H.out]; simp
        clear H
        go_enter Try.func23, Try.ntmps23
        go_wp2_with (go_at_call 22; refine (in_is _ _ _ true hbc _).mono ?_; rintro e w' ⟨rfl, rfl⟩)
        go_quiet ((go_at_call 22; exact Calls.quiet_of_same (in_is _ _ _ _ hb0 _)))
        go_wp2
        go_ret
        exact ⟨ret_bool H2.out, below_drewN hb _⟩
      · have H2 : Hid ((n == m0) = b) := by show _ = _; rw [← H.out]; simp
        clear H
        go_enter Try.func23, Try.ntmps23
        go_wp2_with (go_at_call 22; refine (in_is _ _ _ true hbc _).mono ?_; rintro e w' ⟨rfl, rfl⟩)
        go_quiet ((go_at_call 22; exact Calls.quiet_of_same (in_is _ _ _ _ hb0 _)))
        go_wp2
        go_ret
        exact ⟨ret_bool H2.out, below_drewN hb _⟩
    · have H2 : Hid (true = b) := by show _ = _; rw [← H.out]; simp
      clear H
      go_enter Try.func23, Try.ntmps23
      go_wp2_with (go_at_call 22; refine (in_is _ _ _ true hbc _).mono ?_; rintro e w' ⟨rfl, rfl⟩)
      go_quiet ((go_at_call 22; exact Calls.quiet_of_same (in_is _ _ _ _ hb0 _)))
      go_wp2
      go_ret
      exact ⟨ret_bool H2.out, below_drewN hb _⟩

  · obtain ⟨b0, hb0⟩ : ∃ b0, inB n 0 (m1 - 1) = b0 := ⟨_, rfl⟩
    have H : Hid ((b0 || (s && (n == m1))) = b) := by show _ = _; rw [← h, mayB_reg1 _ _ _ _ _ hm1.1, hb0]
    clear h
    cases b0
    · cases s

      · have H2 : Hid (false = b) := by show _ = _; rw [← H.out]; simp
        clear H
        go_enter Try.func23, Try.ntmps23
        go_wp2_with (go_at_call 22; refine (in_is _ _ _ true hbc _).mono ?_; rintro e w' ⟨rfl, rfl⟩)
        go_quiet ((go_at_call 22; exact Calls.quiet_of_same (in_is _ _ _ _ hb0 _)))
        go_wp2
        go_ret
        exact ⟨ret_bool H2.out, below_drewN hb _⟩
      · have H2 : Hid ((n == m1) = b) := by show _ = _; rw [← H.out]; simp
        clear H
        go_enter Try.func23, Try.ntmps23
        go_wp2_with (go_at_call 22; refine (in_is _ _ _ true hbc _).mono ?_; rintro e w' ⟨rfl, rfl⟩)
        go_quiet ((go_at_call 22; exact Calls.quiet_of_same (in_is _ _ _ _ hb0 _)))
        go_wp2
        go_ret
        exact ⟨ret_bool H2.out, below_drewN hb _⟩
    · have H2 : Hid (true = b) := by show _ = _; rw [← H.out]; simp
      clear H
      go_enter Try.func23, Try.ntmps23
      go_wp2_with (go_at_call 22; refine (in_is _ _ _ true hbc _).mono ?_; rintro e w' ⟨rfl, rfl⟩)
      go_quiet ((go_at_call 22; exact Calls.quiet_of_same (in_is _ _ _ _ hb0 _)))
      go_wp2
      go_ret
      exact ⟨ret_bool H2.out, below_drewN hb _⟩

theorem placeMay_is (p : Pl) (m0 m1 fr : Int) (s b : Bool) (h : mayB m0 m1 fr s p = b) (hm0 : 0 ≤ m0 ∧ m0 ≤ 1000) (hm1 : 0 ≤ m1 ∧ m1 ≤ 1000) (hf : 0 ≤ fr ∧ fr ≤ 1000) (w : World) :
    Calls Try.prog 23 #[.agg #[.int .i64 m0, .int .i64 m1], .int .i64 fr, .agg #[.int .i64 p.kind, .int .i64 p.cls, .int .i64 p.n], .bool s] w fun e w' => e = .returned (.bool b) ∧ Below w.heap.size w w' := placeMay_any p.kind p.cls p.n m0 m1 fr s b h hm0 hm1 hf w
end Go.Proofs.Ytjbjnndmpheedaa
