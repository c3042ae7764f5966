/-
  The walks of RunMixes, RunMakes and RunTakes.
-/
import Derived.Test.YtoalfffecboahaaRuD
namespace Go.Proofs.Ytoalfffecboahaa
open Go.RowKit
set_option linter.unusedVariables false

theorem ru_drewN {B : Nat} {a w : World} (h : Below B a w) (n : Nat) : Below B a (w.drewN n) := ⟨h.os, h.tape, h.output, h.size, h.block⟩
set_option maxHeartbeats 2000000 in
theorem rsame_true (l : List Int) (a b : Option Addr) (n c d : Nat) (w : World) (hn : l.length = n) (h1 : SlOf w 1 RInt (.slice a n c) l) (h2 : SlOf w 1 RInt (.slice b n d) l) :
    Calls Try.prog 12 #[.slice a n c, .slice b n d] w fun e w' => e = .returned (.bool true) ∧ Below w.heap.size w w' := by
  subst hn
  have lb : l.length ≤ longest := by
    obtain ⟨_, _, _, h⟩ := h1.out
    exact h
  unfold longest at lb
  have HA : Hid (SlOf w 1 RInt (.slice a l.length c) l) := h1
  have HB : Hid (SlOf w 1 RInt (.slice b l.length d) l) := h2
  clear h1 h2
  go_enter Try.func12, Try.ntmps12
  go_wp2_with fail
  go_loopw [5] (fun i wr => ∃ k : Nat, k ≤ l.length ∧ i = .int .i64 k ∧ Below w.heap.size w wr) (fun i _ => l.length - (intOf i).toNat)
  case atStart => exact ⟨0, Nat.zero_le _, rfl, Below.refl _ _⟩
  case round =>
    obtain ⟨k, hk, rfl, hbr⟩ := hrel
    by_cases hlt : k < l.length
    · obtain ⟨b1, o1, rfl, hb1, hc1⟩ := ru_at HA.out k hlt
      obtain ⟨b2, o2, rfl, hb2, hc2⟩ := ru_at HB.out k hlt
      have e1 := (hbr.cell (p := ⟨b1, o1 + k, none⟩) hb1).trans hc1
      have e2 := (hbr.cell (p := ⟨b2, o2 + k, none⟩) hb2).trans hc2
      clear hc1 hc2
      generalize l.getD k 0 = x at *
      go_wp2_with fail
      go_quiet (fail)
      go_wp2
      go_roundw
      case rel => exact ⟨k + 1, by omega, by go_num, ru_drewN hbr _⟩
      case measure => simp [intOf]; omega
    · go_wp2
      go_ret
      exact ⟨rfl, hbr⟩

theorem runMixes_walk (l : List Int) (v : Value) (w : World) (h : SlOf w 1 RInt v l) (hf : l.length * 8 ≤ 140737488351232) :
    Calls Try.prog 3 #[v] w fun e w' => e = .returned (.bool true) ∧ Below w.heap.size w w' := by
  obtain ⟨a, c, rfl, _⟩ := h.out
  obtain ⟨n, hn⟩ : ∃ n, l.length = n := ⟨_, rfl⟩
  rw [hn] at h hf ⊢
  obtain ⟨r, hr⟩ : ∃ r, mixL 7 l = r := ⟨_, rfl⟩
  have HC := ints_copy l a n c w hn h (by omega)
  have HL : Hid (l.length = n ∧ mixL 7 l = r ∧ SlOf w 1 RInt (.slice a n c) l) := ⟨hn, hr, h⟩
  clear hn hr h
  go_enter Try.func3, Try.ntmps3
  go_wp2_with fail
  refine HC.mono ?_
  clear HC
  rintro e w1 ⟨a', c', rfl, s1, hb1⟩
  have HC := mix_any l a' n c' r w1 HL.out.1 s1 HL.out.2.1
  have s0 := HL.out.2.2.below hb1 fun _ _ h => h
  have HD := mixedR_any l a n c r w1 HL.out.1 s0 HL.out.2.1
  have HE := rsame_true l a' a n c' c w1 HL.out.1 s1 s0
  have HB : Hid (Below w.heap.size w w1) := hb1
  clear s1 hb1 s0
  go_wp2_with fail
  refine HC.mono ?_
  clear HC
  rintro e w2 ⟨rfl, rfl⟩
  go_wp2_with fail
  refine HD.mono ?_
  clear HD
  rintro e w2 ⟨rfl, rfl⟩
  have q : (r == r) = true := by simp
  go_wp2_with fail
  refine HE.mono ?_
  clear HE
  rintro e w3 ⟨rfl, hb3⟩
  have HB3 : Hid (Below w.heap.size w w3) := HB.out.trans (hb3.mono HB.out.size)
  clear hb3
  go_wp2
  go_ret
  exact ⟨rfl, HB3.out⟩

theorem boxX {w : World} (op : Int) (vo vs : Value) : ∀ i (h : i < 3), (w.alloc (.cells #[.int .i64 op, vo, vs] 30)).cell? ⟨w.heap.size, i, none⟩ = some #[.int .i64 op, vo, vs][i] := fun i h => by
  match i, h with
  | 0, _ => simp
  | 1, _ => simp
  | 2, _ => simp
end Go.Proofs.Ytoalfffecboahaa
