/-
  What the walks of MachJunk, MachFirst and MovesTurn share: sameInts, places by their rows, junk.
-/
import Derived.Test.YtjbjnndmpheedaaG4
import Derived.OpenShut
import Derived.Deep.QuietTactic
import Derived.BigQuiet
namespace Go.Proofs.Ytjbjnndmpheedaa
open Go.RowKit Go.ChangeShapes Go.WideShapes
set_option linter.unusedVariables false

set_option maxHeartbeats 2000000 in
theorem sameInts_true (l : List Int) (a b : Option Addr) (n c d : Nat) (w : World) (hn : l.length = n) (h1 : SlOf w 1 RInt (.slice a n c) l) (h2 : SlOf w 1 RInt (.slice b n d) l) :
    Calls Try.prog 16 #[.slice a n c, .slice b n d] w fun e w' => e = .returned (.bool true) ∧ Below w.heap.size w w' := by
  subst hn
  have lb : l.length ≤ longest := by
    obtain ⟨_, _, _, h⟩ := h1.out
    exact h
  unfold longest at lb
  have HA : Hid (SlOf w 1 RInt (.slice a l.length c) l) := h1
  have HB : Hid (SlOf w 1 RInt (.slice b l.length d) l) := h2
  clear h1 h2
  go_enter Try.func16, Try.ntmps16
  go_wp2_with fail
  go_loopw [5] (fun i wr => ∃ k : Nat, k ≤ l.length ∧ i = .int .i64 k ∧ Below w.heap.size w wr) (fun i _ => l.length - (intOf i).toNat)
  case atStart => exact ⟨0, Nat.zero_le _, rfl, Below.refl _ _⟩
  case round =>
    obtain ⟨k, hk, rfl, hbr⟩ := hrel
    by_cases hlt : k < l.length
    · obtain ⟨b1, o1, rfl, hb1, hc1⟩ := ints_at HA.out k (by omega) (by omega)
      obtain ⟨b2, o2, rfl, hb2, hc2⟩ := ints_at HB.out k (by omega) (by omega)
      rw [Int.toNat_natCast] at hc1 hc2
      have e1 := (hbr.cell (p := ⟨b1, o1 + k, none⟩) hb1).trans hc1
      have e2 := (hbr.cell (p := ⟨b2, o2 + k, none⟩) hb2).trans hc2
      clear hc1 hc2
      generalize l.getD k 0 = x at *
      go_wp2_with fail
      go_quiet (fail)
      go_wp2
      go_roundw
      case rel => exact ⟨k + 1, by omega, by go_num, below_drewN hbr _⟩
      case measure => simp [intOf]; omega
    · go_wp2
      go_ret
      exact ⟨rfl, hbr⟩
theorem sl_rowM {α : Type} {w : World} {b T m k n c : Nat} {f : Nat → Value} {R : List Value → α → Prop} {l : List α} (hrow : w.rowIs b T m f) (hn : l.length = n) (hm : n * k ≤ m) (hlong : n ≤ longest) (hR : ∀ i (h : i < l.length), R ((List.range k).map fun j => f (i * k + j)) l[i]) : SlOf w k R (.slice (some ⟨b, 0, none⟩) n c) l := by
  subst hn
  refine ⟨_, c, rfl, hlong, Or.inr ⟨b, 0, rfl, fun i hi => ⟨_, by simp, hR i hi, fun j hj => ?_⟩⟩⟩
  have hj' : j < k := by simpa using hj
  have h1 : i * k + k ≤ l.length * k := by
    have := Nat.mul_le_mul_right k (show i + 1 ≤ l.length by omega)
    rw [Nat.add_mul, Nat.one_mul] at this
    exact this
  have h2 := hrow.cell (i := i * k + j) (by omega)
  simp only [Nat.zero_add, List.getElem_map, List.getElem_range]
  exact h2
theorem pl3_sl {B : Nat} {pa pb : Pl} {b1 b2 b3 b4 : Nat} {w : World} (h : Pl3 B pa pb b1 b2 b3 b4 w) : SlOf w 1 (RPss w) (.slice (some ⟨b1, 0, none⟩) 1 1) (mjP pa pb) := by
  have h3 : SlOf w 3 RPl (.slice (some ⟨b3, 0, none⟩) 1 1) [pa] := sl_rowM h.r3 rfl (by omega) (by decide) fun i hi => by
    match i, hi with | 0, _ => rfl
  have h4 : SlOf w 3 RPl (.slice (some ⟨b4, 0, none⟩) 1 1) [pb] := sl_rowM h.r4 rfl (by omega) (by decide) fun i hi => by
    match i, hi with | 0, _ => rfl
  have h2 : SlOf w 1 (RPs w) (.slice (some ⟨b2, 0, none⟩) 3 3) [[pa], [], [pb]] := sl_rowM h.r2 rfl (by omega) (by decide) fun i hi => by
    match i, hi with
    | 0, _ => exact ⟨_, rfl, h3⟩
    | 1, _ => exact ⟨_, rfl, sl_none _ _ _⟩
    | 2, _ => exact ⟨_, rfl, h4⟩
  exact sl_rowM h.r1 rfl (by omega) (by decide) fun i hi => by
    match i, hi with | 0, _ => exact ⟨_, rfl, h2⟩
theorem PairR.all {w0 w : World} {blk : Blk} {pa pb : Pl} {bv bb b1 b2 b3 b4 : Nat} (h : PairR w0 blk pa pb bv bb b1 b2 b3 b4 w) : SlOf w 1 RInt (.slice (some ⟨bv, 0, none⟩) 1 1) [0] ∧ SlOf w 3 (RBlk w) (.slice (some ⟨bb, 0, none⟩) 1 1) [blk] ∧ SlOf w 1 (RPss w) (.slice (some ⟨b1, 0, none⟩) 1 1) (mjP pa pb) := by
  obtain ⟨B, _, hp, wq, h1, h2, h3⟩ := h.pls
  have hc := h3 w fun _ _ => rfl
  exact ⟨hc.sl h1 fun _ _ h => h, hc.sl h2 hc.blk, pl3_sl hp⟩
theorem junkL_succ (b : Int) (n : Nat) : junkL b (n + 1) = junkL b n ++ [b + (n : Int)] := by unfold junkL; rw [List.range_succ, List.map_append]; rfl
theorem junkL_len (b : Int) (n : Nat) : (junkL b n).length = n := by unfold junkL; simp
theorem reads_three {s : Ms} {a b c : List Int} (h : readsOf s = [a, b, c]) : s.evs.length = 3 ∧ ∃ h2 : 2 < s.evs.length, s.evs[2].read = c := by
  unfold readsOf at h
  have hl : s.evs.length = 3 := by have := congrArg List.length h; simpa using this
  refine ⟨hl, by omega, ?_⟩
  have h3 : (s.evs.map fun e => e.read)[2]? = some c := by rw [h]; rfl
  rw [List.getElem?_map, List.getElem?_eq_getElem (by omega)] at h3
  simpa using h3
end Go.Proofs.Ytjbjnndmpheedaa
