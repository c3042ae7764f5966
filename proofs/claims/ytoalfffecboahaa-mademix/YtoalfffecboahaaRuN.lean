/-
  The walk of MadeMix.
-/
import Derived.Test.YtoalfffecboahaaRuM
namespace Go.Proofs.Ytoalfffecboahaa
open Go.RowKit Go.ChangeShapes Go.WideShapes
set_option linter.unusedVariables false

theorem one_insM {w : World} : SlOf (w.alloc (.cells #[.int .i64 0, .slice none 0 0, .slice none 0 0] 30)) 3 (RIns (w.alloc (.cells #[.int .i64 0, .slice none 0 0, .slice none 0 0] 30))) (.slice (some ⟨w.heap.size, 0, none⟩) 1 1) [⟨0, [], []⟩] := by
  refine ⟨_, 1, rfl, by simp [longest], Or.inr ⟨w.heap.size, 0, rfl, fun i hi => ⟨[.int .i64 0, .slice none 0 0, .slice none 0 0], rfl, ?_, ?_⟩⟩⟩
  · have : i = 0 := by simp at hi; omega
    subst this
    exact ⟨_, _, rfl, ⟨none, 0, rfl, by simp [longest], Or.inl rfl⟩, ⟨none, 0, rfl, by simp [longest], Or.inl rfl⟩⟩
  · have : i = 0 := by simp at hi; omega
    subst this
    intro j hj
    match j, hj with
    | 0, _ => simp
    | 1, _ => simp
    | 2, _ => simp
theorem takes_none (seed : Int) (l : List Int) : takesM seed [] 0 0 l = -1 := by unfold takesM; rw [if_pos (by simp)]
theorem takes_one (seed : Int) (x : Ins) (l : List Int) : takesM seed [x] 1 0 l = 0 := by unfold takesM; rw [if_neg (by simp)]; omega

set_option maxHeartbeats 4000000 in
theorem madeMix_walk (seed : Int) (ws : (Lit.int .i64 seed).wf = true) (op : Int) (wo : (Lit.int .i64 op).wf = true) (place : Int) (wp : (Lit.int .i64 place).wf = true) (l : List Int) (v : Value) (w : World) (h : SlOf w 1 RInt v l) (hf : l.length * 8 ≤ 140737488351232) :
    Calls Try.prog 7 #[.int .i64 seed, .int .i64 op, .int .i64 place, v] w fun e w' => e = .returned (.bool true) ∧ Below w.heap.size w w' := by
  obtain ⟨i3, hi3, hz3, hz31, hz32⟩ := ru_parts ruInfo
  obtain ⟨o0, o1⟩ := bounds_i64 wo
  obtain ⟨a, c, rfl, _⟩ := h.out
  obtain ⟨n, hn⟩ : ∃ n, l.length = n := ⟨_, rfl⟩
  rw [hn] at h hf ⊢
  have HC := picked_any op 256 w o0 o1 (by decide) (by decide)
  generalize pickedOf op 256 = k at *
  obtain ⟨r, hr⟩ : ∃ r, mixL 7 ([seed, k, place] ++ l) = r := ⟨_, rfl⟩
  have HD := made_any seed k place (.slice none 0 0) (.slice none 0 0) l a n c r w hn h hr
  have HR : Hid (mixL 7 ([seed, k, place] ++ l) = r) := hr
  have HL : Hid (l.length = n) := hn
  have HS : Hid (SlOf w 1 RInt (.slice a n c) l) := h
  have hx2 := (ru_ints h).2.1
  have hx4 := ru_one l
  clear h hn hr o0 o1 wo ws wp
  go_enter Try.func7, Try.ntmps7
  go_wp2_with fail
  refine HC.mono ?_
  clear HC
  rintro e w1 ⟨rfl, rfl⟩
  go_wp2_with fail
  refine HD.mono ?_
  clear HD
  rintro e w2 ⟨rfl, hb2⟩
  have HB2 : Hid (Below w1.heap.size w1 w2) := hb2
  have HG : Hid (GrS w2 w2.heap.size (.slice (some ⟨w2.heap.size, 0, none⟩) 3 3) [seed, k, place] (w2.alloc (.cells #[.int .i64 seed, .int .i64 k, .int .i64 place] 3))) := ⟨ru_own_new w2.heap.size [seed, k, place] #[.int .i64 seed, .int .i64 k, .int .i64 place] rfl (Nat.le_refl _) (by simp) (by simp [maxLen]), (Below.refl _ _).alloc (Nat.le_refl _) _, by simp⟩
  have hb3 : Below w1.heap.size w1 (w2.alloc (.cells #[.int .i64 seed, .int .i64 k, .int .i64 place] 3)) := hb2.alloc hb2.size _
  have hx3 := (ru_ints (HS.out.below hb3 fun _ _ h => h)).2.2
  have own := HG.out.own
  have hle := HG.out.le
  clear hb2 hb3
  go_wp2_with (at_builtin; go_must (refine ru_append _ rfl _ _ 22 rfl w2.heap.size 3 i3 (.int .i64 0) 8 Try.underlying22 hi3 hz3 hz31 hz32 rfl (.slice (some ⟨w2.heap.size, 0, none⟩) 3 3) 3 _ (by rfl) own a n c (l.flatMap cI) (by rfl) hx2 hx3 hx4 ?e1 ?e2 ?e3 ?_))
  rotate_left
  any_goals (first | (unfold maxLen; omega) | omega | (simp; done))
  intro a' cap wb hown hgrow
  have HP : Hid (SlOf wb 1 RInt (.slice a' (3 + n) cap) ([seed, k, place] ++ l) ∧ Below w1.heap.size w1 wb) := by
    have hh : GrS w2 w2.heap.size (.slice a' (3 + n) cap) ([seed, k, place] ++ l) wb := HG.out.push (by rw [HL.out]; rfl) hgrow hown
    exact ⟨hh.sl (by rw [List.length_append, HL.out]; simp [longest]; omega), HB2.out.trans (hh.low.mono HB2.out.size)⟩
  clear hown hgrow own HG hle hx3
  have HC := mix_any ([seed, k, place] ++ l) a' (3 + n) cap r wb (by rw [List.length_append, HL.out]; rfl) HP.out.1 HR.out
  have HD := takes_any seed [] (.slice none 0 0) none none 0 0 0 0 0 l a n c (-1) wb ⟨none, 0, rfl, by simp [longest], Or.inl rfl⟩ rfl (by simp [longest]) HL.out (HS.out.below HP.out.2 fun _ _ h => h) (takes_none seed l)
  go_wp2_with fail
  refine HC.mono ?_
  clear HC
  rintro e wz ⟨rfl, rfl⟩
  have q : (r == r) = true := by simp
  go_wp2_with fail
  refine HD.mono ?_
  clear HD
  rintro e w4 ⟨rfl, hb4⟩
  have hb5 : Below w1.heap.size w1 w4 := HP.out.2.trans (hb4.mono HP.out.2.size)
  obtain ⟨W5, hW5⟩ : ∃ W5, W5 = w4.alloc (.cells #[.int .i64 0, .slice none 0 0, .slice none 0 0] 30) := ⟨_, rfl⟩
  obtain ⟨W6, hW6⟩ : ∃ W6, W6 = W5.alloc (.cells #[.int .i64 0, .slice none 0 0] 42) := ⟨_, rfl⟩
  have b5 : Below w4.heap.size w4 W5 := by rw [hW5]; exact (Below.refl _ _).alloc (Nat.le_refl _) _
  have b6 : Below W5.heap.size W5 W6 := by rw [hW6]; exact (Below.refl _ _).alloc (Nat.le_refl _) _
  have b7 : Below w1.heap.size w1 W6 := (hb5.trans (b5.mono hb5.size)).trans (b6.mono (Nat.le_trans hb5.size b5.size))
  have si : SlOf W6 3 (RIns W6) (.slice (some ⟨w4.heap.size, 0, none⟩) 1 1) [⟨0, [], []⟩] := by
    have s5 : SlOf W5 3 (RIns W5) (.slice (some ⟨w4.heap.size, 0, none⟩) 1 1) [⟨0, [], []⟩] := by rw [hW5]; exact one_insM
    exact s5.below b6 (RIns.below b6)
  have HC := takes_any seed [⟨0, [], []⟩] (.slice none 0 0) (some ⟨w4.heap.size, 0, none⟩) (some ⟨W5.heap.size, 0, none⟩) 1 1 1 1 0 l a n c 0 W6 si rfl (by simp [longest]) HL.out (HS.out.below b7 fun _ _ h => h) (takes_one seed _ l)
  have HW5 : Hid (W5 = w4.alloc (.cells #[.int .i64 0, .slice none 0 0, .slice none 0 0] 30)) := hW5
  have HW6 : Hid (W6 = W5.alloc (.cells #[.int .i64 0, .slice none 0 0] 42)) := hW6
  have HB7 : Hid (Below w1.heap.size w1 W6) := b7
  have hz5 : w4.heap.size + 1 = W5.heap.size := by rw [hW5]; simp
  have HZ5 : Hid (w4.heap.size + 1 = W5.heap.size) := hz5
  clear hb4 hb5 hW5 hW6 b5 b6 b7 si hz5
  go_wp2_with fail
  rw [HZ5.out, ← HW5.out, ← HW6.out]
  refine HC.mono ?_
  clear HC
  rintro e w8 ⟨rfl, hb8⟩
  have HB8 : Hid (Below w1.heap.size w1 w8) := HB7.out.trans (hb8.mono HB7.out.size)
  clear hb8
  go_wp2
  go_ret
  exact ⟨rfl, HB8.out⟩
end Go.Proofs.Ytoalfffecboahaa
