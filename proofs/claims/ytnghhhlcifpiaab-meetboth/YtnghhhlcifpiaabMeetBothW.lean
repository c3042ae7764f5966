/-
  The contract of the statement's own 'operand', and the walk through 'MeetBoth': it answers true for all numbers, and writes to nothing that was there.
-/
import Derived.Test.YtnghhhlcifpiaabRows
import Derived.WalkKit
import Derived.WalkSpells
import Derived.WalkLawsBesides
import Derived.Below
import Derived.Deep.RegionHeld3
import Derived.Test.YtnghhhlcifpiaabMeet
namespace Go.Proofs.Ytnghhhlcifpiaab
open Go.RowKit

theorem bcell {W w1 : World} (hb : Below W.heap.size W w1) : (∀ b o, b < W.heap.size → w1.cell? ⟨b, o, none⟩ = W.cell? ⟨b, o, none⟩) ∧ (∀ b o, b < W.heap.size → w1.frozen? ⟨b, o, none⟩ = W.frozen? ⟨b, o, none⟩) :=
  ⟨fun b o h => hb.cell (p := ⟨b, o, none⟩) h, fun b o h => hb.frozen (p := ⟨b, o, none⟩) h⟩

theorem operand_any (k v f : Int) (w : World) (hk : -9223372036854775808 ≤ k) (hk' : k ≤ 9223372036854775807) (hv : -9223372036854775808 ≤ v) (hv' : v ≤ 9223372036854775807) (hf : -9223372036854775808 ≤ f) (hf' : f ≤ 9223372036854775807) :
    Calls Try.prog 12 #[.int .i64 k, .int .i64 v, .int .i64 f] w fun e w' => e = .returned (operV (1 + pickedOf k 2) (pickedOf v 4) (pickedOf f 2 == 1) 1 0) ∧ Below w.heap.size w w' := by
  obtain ⟨p0, p0'⟩ := pickedOf_bd k 2 (by omega)
  go_enter Try.func12, Try.ntmps12
  go_wp2_with (go_at_call 10; refine (picked_any _ _ _ (by omega) (by omega) (by omega) (by omega)).mono ?_; rintro e w' ⟨rfl, rfl⟩)
  exact bodyPost_ret (v := operV (1 + pickedOf k 2) (pickedOf v 4) (pickedOf f 2 == 1) 1 0) (by simp [results, Try.results12, go_sem]) rfl ⟨rfl, (Below.refl _ _).alloc (Nat.le_refl _) _⟩

theorem meetBoth_walk (a0 a1 a2 a3 a4 a5 : Int) (w0 : -9223372036854775808 ≤ a0) (w0' : a0 ≤ 9223372036854775807) (w1 : -9223372036854775808 ≤ a1) (w1' : a1 ≤ 9223372036854775807) (w2 : -9223372036854775808 ≤ a2) (w2' : a2 ≤ 9223372036854775807) (w3 : -9223372036854775808 ≤ a3) (w3' : a3 ≤ 9223372036854775807) (w4 : -9223372036854775808 ≤ a4) (w4' : a4 ≤ 9223372036854775807) (w5 : -9223372036854775808 ≤ a5) (w5' : a5 ≤ 9223372036854775807) (w : World) :
    Calls Try.prog 4 #[.int .i64 a0, .int .i64 a1, .int .i64 a2, .int .i64 a3, .int .i64 a4, .int .i64 a5] w fun e w' => e = .returned (.bool true) ∧ Below w.heap.size w w' := by
  go_enter Try.func4, Try.ntmps4
  go_wp2_with fail
  refine (operand_any _ _ _ _ w0 w0' w1 w1' w2 w2').mono ?_
  rintro e w1 ⟨rfl, hb1⟩
  have hz1 := hb1.size
  generalize (1 + pickedOf a0 2) = k1
  generalize (pickedOf a1 4) = v1
  generalize (pickedOf a2 2 == 1) = l1
  go_wp2_with fail
  refine (operand_any _ _ _ _ w3 w3' w4 w4' w5 w5').mono ?_
  rintro e w2 ⟨rfl, hb2⟩
  generalize (1 + pickedOf a3 2) = k2
  generalize (pickedOf a4 4) = v2
  generalize (pickedOf a5 2 == 1) = l2
  have hz2 := hb2.size
  simp at hz2
  obtain ⟨hc2, hf2⟩ := bcell hb2
  go_wp2_with fail
  have hz : w1.heap.size < w2.heap.size := by omega
  have e0 : w2.cell? ⟨w1.heap.size, 0, none⟩ = some (.int .i64 k1) := by rw [hc2 _ _ (by simp)]; simp
  have e1 : w2.cell? ⟨w1.heap.size, 1, none⟩ = some (.int .i64 v1) := by rw [hc2 _ _ (by simp)]; simp
  have e2 : w2.cell? ⟨w1.heap.size, 2, none⟩ = some (.bool l1) := by rw [hc2 _ _ (by simp)]; simp
  have e3 : w2.cell? ⟨w1.heap.size, 3, none⟩ = some (.int .i64 1) := by rw [hc2 _ _ (by simp)]; simp
  have e4 : w2.cell? ⟨w1.heap.size, 4, none⟩ = some (.int .i64 0) := by rw [hc2 _ _ (by simp)]; simp
  have hne : w1.heap.size ≠ w2.heap.size := by omega
  have hne' : w1.heap.size ≠ w2.heap.size + 1 := by omega
  have hbw : Below w.heap.size w w2 := (hb1.alloc hz1 _).trans (hb2.mono (by simp; omega))
  have hbW := (hbw.alloc (by omega) (.cells (operCells k2 v2 l2 1 0) 36)).alloc (by simp; omega) (.cells (operCells 2 0 false 0 0) 36)
  clear hc2 hf2 hb2 hb1 hbw
  have hs1 : w1.heap.size < w2.heap.size + 1 + 1 := by omega
  have hs2 : w2.heap.size < w2.heap.size + 1 + 1 := by omega
  have mE := meetB_comm k1 v1 l1 k2 v2 l2
  have MD : meetB 2 0 false 2 0 false = true := by simp [meetB]
  go_region_held3 (fun wx => wx.cell? ⟨w1.heap.size, 0, none⟩ = some (.int .i64 k1) ∧ wx.cell? ⟨w1.heap.size, 1, none⟩ = some (.int .i64 v1) ∧ wx.cell? ⟨w1.heap.size, 2, none⟩ = some (.bool l1) ∧ wx.cell? ⟨w1.heap.size, 3, none⟩ = some (.int .i64 1) ∧ wx.cell? ⟨w1.heap.size, 4, none⟩ = some (.int .i64 0) ∧ wx.cell? ⟨w2.heap.size, 0, none⟩ = some (.int .i64 k2) ∧ wx.cell? ⟨w2.heap.size, 1, none⟩ = some (.int .i64 v2) ∧ wx.cell? ⟨w2.heap.size, 2, none⟩ = some (.bool l2) ∧ wx.cell? ⟨w2.heap.size, 3, none⟩ = some (.int .i64 1) ∧ wx.cell? ⟨w2.heap.size, 4, none⟩ = some (.int .i64 0) ∧ wx.cell? ⟨w2.heap.size + 1, 0, none⟩ = some (.int .i64 2) ∧ wx.cell? ⟨w2.heap.size + 1, 1, none⟩ = some (.int .i64 0) ∧ wx.cell? ⟨w2.heap.size + 1, 2, none⟩ = some (.bool false) ∧ wx.cell? ⟨w2.heap.size + 1, 3, none⟩ = some (.int .i64 0) ∧ wx.cell? ⟨w2.heap.size + 1, 4, none⟩ = some (.int .i64 0) ∧ w1.heap.size < wx.heap.size ∧ w2.heap.size < wx.heap.size ∧ w2.heap.size + 1 < wx.heap.size ∧ Below w.heap.size w wx) (((try (dsimp only at *)); (try go_split_ands); (repeat' apply And.intro); all_goals (first | assumption | (simp [*, World.cell?_alloc_some]; done) | (simp; omega) | (exact hbW.drew) | (exact (hb.cell (p := ⟨_, _, none⟩) (by assumption)).trans (by assumption)) | (exact Nat.lt_of_lt_of_le (by assumption) hb.size) | (exact (‹Below w.heap.size w _›).trans (hb.mono (‹Below w.heap.size w _›).size)))))
    (first | (go_at_call 13; refine (meet_any _ _ _ _ _ _ _ _ _ _ _).mono ?_; rintro e w' ⟨rfl, hb⟩))
  go_split_ands
  go_wp2
  go_ret
  exact ⟨rfl, by assumption⟩
end Go.Proofs.Ytnghhhlcifpiaab
