/-
  The contracts of the reference's 'joinedInts' and of the statements' own 'ints'.
-/
import Derived.Test.YtoalfffecboahaaRuB
namespace Go.Proofs.Ytoalfffecboahaa
open Go.RowKit
set_option linter.unusedVariables false

/-- A row of one's own that grows: the numbers so far. -/
structure GrS (w0 : World) (N : Nat) (v : Value) (l : List Int) (w : World) : Prop where
  own : w.ownsRow N 3 1 v l.length (l.flatMap cI)
  low : Below N w0 w
  le : N ≤ w.heap.size
theorem GrS.below {w0 : World} {N : Nat} {v : Value} {l : List Int} {w w' : World} (h : GrS w0 N v l w) (hb : Below w.heap.size w w') : GrS w0 N v l w' :=
  ⟨own_keep h.own fun g _ _ hg => hb.block g hg, h.low.trans (hb.mono h.le), Nat.le_trans h.le hb.size⟩
theorem GrS.push {w0 : World} {N : Nat} {v v' : Value} {l l2 : List Int} {w w1 : World} {m : Nat} (h : GrS w0 N v l w) (hm : m = l.length + l2.length) (hgrow : w.grownBy w1 v.ownBlock) (hown : w1.ownsRow N 3 1 v' m (l.flatMap cI ++ l2.flatMap cI)) : GrS w0 N v' (l ++ l2) w1 := by
  refine ⟨?_, h.low.trans (ru_grown hgrow h.own h.le), Nat.le_trans h.le hgrow.size⟩
  rw [List.length_append, ← hm, List.flatMap_append]
  exact hown
theorem GrS.nil (w : World) : GrS w w.heap.size (.slice none 0 0) [] w := ⟨⟨rfl, Or.inl ⟨rfl, rfl⟩⟩, Below.refl _ _, Nat.le_refl _⟩
theorem GrS.sl {w0 : World} {N : Nat} {v : Value} {l : List Int} {w : World} (h : GrS w0 N v l w) (hn : l.length ≤ longest) : SlOf w 1 RInt v l := own_ints _ h.own hn

set_option maxHeartbeats 4000000 in
theorem joined_ints (l1 l2 : List Int) (a1 a2 : Option Addr) (n1 n2 c1 c2 : Nat) (w : World) (hn1 : l1.length = n1) (hn2 : l2.length = n2) (h1 : SlOf w 1 RInt (.slice a1 n1 c1) l1) (h2 : SlOf w 1 RInt (.slice a2 n2 c2) l2) (hfew : (n1 + n2) * 8 ≤ 140737488355328) :
    Calls Try.prog 21 #[.slice a1 n1 c1, .slice a2 n2 c2] w fun e w' => ∃ a c, e = .returned (.slice a (n1 + n2) c) ∧ SlOf w' 1 RInt (.slice a (n1 + n2) c) (l1 ++ l2) ∧ Below w.heap.size w w' := by
  obtain ⟨i3, hi3, hz3, hz31, hz32⟩ := ru_parts ruInfo
  obtain ⟨N, hN⟩ : ∃ N, w.heap.size = N := ⟨_, rfl⟩
  have HN : Hid (w.heap.size = N) := hN
  have H1 : Hid (SlOf w 1 RInt (.slice a1 n1 c1) l1 ∧ l1.length = n1) := ⟨h1, hn1⟩
  have H2 : Hid (SlOf w 1 RInt (.slice a2 n2 c2) l2 ∧ l2.length = n2) := ⟨h2, hn2⟩
  have HS0 : Hid (GrS w N (.slice none 0 0) [] w) := by rw [← hN]; exact GrS.nil w
  clear h1 h2 hn1 hn2 hN
  go_enter Try.func21, Try.ntmps21
  go_wp2_with fail
  go_loopw [6, 5] (fun i s wr => ∃ (k : Nat) (as' : Option Addr) (cs' : Nat), k ≤ n1 ∧ i = .int .i64 k ∧ s = .slice as' k cs' ∧ Hid (GrS w N (.slice as' k cs') (l1.take k) wr)) (fun i _ _ => n1 - (intOf i).toNat)
  case atStart => exact ⟨0, _, _, Nat.zero_le _, rfl, rfl, by simpa using HS0⟩
  case round =>
    clear HS0
    obtain ⟨k, as', cs', hk, rfl, rfl, HI⟩ := hrel
    by_cases hlt : k < n1
    · have hkl : k < l1.length := by rw [H1.out.2]; exact hlt
      obtain ⟨b1, o1, rfl, hb1, e0⟩ := ru_at H1.out.1 k hkl
      have e1 := (HI.out.low.cell (p := ⟨b1, o1 + k, none⟩) (by rw [← HN.out]; exact hb1)).trans e0
      have ht : Hid (l1.take (k + 1) = l1.take k ++ [l1.getD k 0]) := by
        show _ = _
        rw [List.take_add_one, List.getElem?_eq_getElem hkl, List.getD_eq_getElem?_getD, List.getElem?_eq_getElem hkl]
        rfl
      have HTL : Hid ((l1.take k).length = k) := by show _ = _; rw [List.length_take]; omega
      clear e0
      generalize l1.getD k 0 = x at *
      have hle := HI.out.le
      have own := HI.out.own
      rw [HTL.out] at own
      have oA := own.alloc (.cells #[.int .i64 x] 3)
      go_wp2_with (at_builtin; go_must (refine wpList_append_lies _ rfl _ _ 22 rfl N 3 i3 (.int .i64 0) 1 8 Try.underlying22 hi3 hz3 hz31 hz32 rfl (by omega) (.slice as' k cs') k _ (by rfl) oA ⟨wr.heap.size, 0, none⟩ 1 1 [.int .i64 x] (by rfl) (by rfl) ?e1 ?e2 (by omega) ?e3 ?e4 ?e5 (wr.heap.size + 1) ?e6 ?_))
      rotate_left
      any_goals (first | (exact ru_news rfl) | rfl | (show Value.oneCell' _ = true; simp [Value.oneCell']) | (intro u hu; simp at hu; subst hu; rfl) | (unfold maxLen; omega) | omega | (simp; omega) | (simp; rfl) | (simp; done))
      intro g cap wb hown hgrow hat hgl
      have HP : Hid (GrS w N (.slice (some ⟨g, 0, none⟩) (k + 1) cap) (l1.take (k + 1)) wb) := by
        show GrS _ _ _ _ _
        rw [ht.out]
        exact (HI.out.below ((Below.refl _ _).alloc (Nat.le_refl _) _)).push (by rw [HTL.out]; rfl) hgrow hown
      clear hown hgrow hat hgl oA own HI ht HTL e1
      go_wp2
      go_roundw
      case rel => exact ⟨k + 1, _, _, by omega, by go_num, rfl, HP⟩
      case measure => simp [intOf]; omega
    · have hkn : k = n1 := by omega
      subst hkn
      have HS : Hid (GrS w N (.slice as' k cs') (l1 ++ l2.take 0) wr) := by
        show GrS _ _ _ _ _
        rw [List.take_zero, List.append_nil]
        have := HI.out
        rw [List.take_of_length_le (by have := H1.out.2; omega)] at this
        exact this
      clear HI hk hlt
      go_wp2_with fail
      go_loopw [7, 5] (fun i s wr => ∃ (j : Nat) (as' : Option Addr) (cs' : Nat), j ≤ n2 ∧ i = .int .i64 j ∧ s = .slice as' (k + j) cs' ∧ Hid (GrS w N (.slice as' (k + j) cs') (l1 ++ l2.take j) wr)) (fun i _ _ => n2 - (intOf i).toNat)
      case atStart => exact ⟨0, _, _, Nat.zero_le _, rfl, rfl, HS⟩
      case round =>
        clear HS
        obtain ⟨j, as', cs', hj, rfl, rfl, HI⟩ := hrel
        by_cases hlt : j < n2
        · have hkl : j < l2.length := by rw [H2.out.2]; exact hlt
          obtain ⟨b1, o1, rfl, hb1, e0⟩ := ru_at H2.out.1 j hkl
          have e1 := (HI.out.low.cell (p := ⟨b1, o1 + j, none⟩) (by rw [← HN.out]; exact hb1)).trans e0
          have ht : Hid (l2.take (j + 1) = l2.take j ++ [l2.getD j 0]) := by
            show _ = _
            rw [List.take_add_one, List.getElem?_eq_getElem hkl, List.getD_eq_getElem?_getD, List.getElem?_eq_getElem hkl]
            rfl
          have HTL : Hid ((l1 ++ l2.take j).length = k + j) := by show _ = _; rw [List.length_append, List.length_take, H1.out.2]; omega
          clear e0
          generalize l2.getD j 0 = x at *
          have hle := HI.out.le
          have own := HI.out.own
          rw [HTL.out] at own
          have oA := own.alloc (.cells #[.int .i64 x] 3)
          go_wp2_with (at_builtin; go_must (refine wpList_append_lies _ rfl _ _ 22 rfl N 3 i3 (.int .i64 0) 1 8 Try.underlying22 hi3 hz3 hz31 hz32 rfl (by omega) (.slice as' (k + j) cs') (k + j) _ (by rfl) oA ⟨wr.heap.size, 0, none⟩ 1 1 [.int .i64 x] (by rfl) (by rfl) ?f1 ?f2 (by omega) ?f3 ?f4 ?f5 (wr.heap.size + 1) ?f6 ?_))
          rotate_left
          any_goals (first | (exact ru_news rfl) | rfl | (show Value.oneCell' _ = true; simp [Value.oneCell']) | (intro u hu; simp at hu; subst hu; rfl) | (unfold maxLen; omega) | omega | (simp; omega) | (simp; rfl) | (simp; done))
          intro g cap wb hown hgrow hat hgl
          have HP : Hid (GrS w N (.slice (some ⟨g, 0, none⟩) (k + (j + 1)) cap) (l1 ++ l2.take (j + 1)) wb) := by
            show GrS _ _ _ _ _
            rw [ht.out, ← List.append_assoc, ← Nat.add_assoc]
            exact (HI.out.below ((Below.refl _ _).alloc (Nat.le_refl _) _)).push (m := k + j + 1) (by rw [HTL.out]; rfl) hgrow (by rw [List.flatMap_append, List.append_assoc]; exact hown)
          clear hown hgrow hat hgl oA own HI ht HTL e1
          go_wp2
          go_roundw
          case rel => exact ⟨j + 1, _, _, by omega, by go_num, rfl, HP⟩
          case measure => simp [intOf]; omega
        · have hjn : j = n2 := by omega
          subst hjn
          have HE : Hid (SlOf wr 1 RInt (.slice as' (k + j) cs') (l1 ++ l2) ∧ Below w.heap.size w wr) := by
            have := HI.out
            rw [List.take_of_length_le (by have := H2.out.2; omega)] at this
            exact ⟨this.sl (by rw [List.length_append, H1.out.2, H2.out.2]; unfold longest; omega), by rw [HN.out]; exact this.low⟩
          clear HI
          go_wp2
          go_ret
          exact ⟨as', cs', rfl, HE.out⟩

theorem ints_copy (l : List Int) (a : Option Addr) (n c : Nat) (w : World) (hn : l.length = n) (h1 : SlOf w 1 RInt (.slice a n c) l) (hfew : n * 8 ≤ 140737488355328) :
    Calls Try.prog 9 #[.slice a n c] w fun e w' => ∃ a' c', e = .returned (.slice a' n c') ∧ SlOf w' 1 RInt (.slice a' n c') l ∧ Below w.heap.size w w' := by
  obtain ⟨i3, hi3, hz3, hz31, hz32⟩ := ru_parts ruInfo
  obtain ⟨hx1, hx2, hx3⟩ := ru_ints h1
  have hx4 := ru_one l
  have HL : Hid (l.length = n) := hn
  clear h1 hn hx1
  go_enter Try.func9, Try.ntmps9
  go_wp2_with (at_builtin; go_must (refine ru_append _ rfl _ _ 22 rfl w.heap.size 3 i3 (.int .i64 0) 8 Try.underlying22 hi3 hz3 hz31 hz32 rfl (.slice none 0 0) 0 [] (by rfl) (World.ownsRow_nil _ _ _ _) a n c (l.flatMap cI) (by rfl) hx2 hx3 hx4 ?e1 ?e2 (Nat.le_refl _) ?_))
  rotate_left
  any_goals (first | (unfold maxLen; omega) | omega)
  intro a' cap wb hown hgrow
  have HE : Hid (SlOf wb 1 RInt (.slice a' n cap) l ∧ Below w.heap.size w wb) := ⟨own_ints l hown (by unfold longest; omega), ru_below (by simpa [Value.ownBlock] using hgrow)⟩
  clear hown hgrow hx2 hx3 hx4
  go_wp2
  go_ret
  exact ⟨a', cap, rfl, HE.out⟩
end Go.Proofs.Ytoalfffecboahaa
