/-
  The walk through 'ClashTold': it answers true for all arguments, and writes to nothing that was there.
-/
import Derived.Test.YtnghhhlcifpiaabMk
namespace Go.Proofs.Ytnghhhlcifpiaab
open Go.RowKit
set_option linter.unusedVariables false

def clF (ops : List Opr) (sp : List Rg) : Fn := ⟨[0, 0], [⟨[], [⟨0, [⟨2, 0, false, 1, 0⟩], []⟩, ⟨0, ops, sp⟩], []⟩]⟩

theorem ten (n : Int) (h0 : 0 ≤ n) (h1 : n < 10) : n = 0 ∨ n = 1 ∨ n = 2 ∨ n = 3 ∨ n = 4 ∨ n = 5 ∨ n = 6 ∨ n = 7 ∨ n = 8 ∨ n = 9 := by omega
theorem clF0 (n : Int) (l : Bool) (h0 : 0 ≤ n) (h1 : n < 10) : shapeErr (clF [⟨1, 0, l, 4, n⟩, ⟨2, 1, true, 4, n⟩] []) 10 10 = if l then 12 else 0 := by
  rcases ten n h0 h1 with rfl | rfl | rfl | rfl | rfl | rfl | rfl | rfl | rfl | rfl <;> cases l <;> decide
theorem clF1 (n : Int) (l : Bool) (h0 : 0 ≤ n) (h1 : n < 10) : shapeErr (clF [⟨1, 0, l, 4, n⟩, ⟨2, 1, true, 1, 0⟩] [⟨0, n⟩]) 10 10 = if l then 12 else 0 := by
  rcases ten n h0 h1 with rfl | rfl | rfl | rfl | rfl | rfl | rfl | rfl | rfl | rfl <;> cases l <;> decide
theorem clF2 (n : Int) (l : Bool) (h0 : 0 ≤ n) (h1 : n < 10) : shapeErr (clF [⟨1, 0, l, 4, n⟩, ⟨2, 1, false, 4, n⟩] []) 10 10 = 12 := by
  rcases ten n h0 h1 with rfl | rfl | rfl | rfl | rfl | rfl | rfl | rfl | rfl | rfl <;> cases l <;> decide

set_option maxHeartbeats 4000000 in
theorem clashTold_walk (r wh : Int) (l : Bool) (w : World) (u0 : -9223372036854775808 ≤ r) (u0' : r ≤ 9223372036854775807) (u2 : -9223372036854775808 ≤ wh) (u2' : wh ≤ 9223372036854775807) :
    Calls Try.prog 6 #[.int .i64 r, .bool l, .int .i64 wh] w fun e w' => e = .returned (.bool true) ∧ Below w.heap.size w w' := by
  obtain ⟨p0, p0'⟩ := pickedOf_bd r 10 (by omega)
  obtain ⟨q0, q0'⟩ := pickedOf_bd wh 3 (by omega)
  have pm : pickedOf 8 9 = 8 := by decide
  go_enter Try.func6, Try.ntmps6
  go_wp2_with fail
  refine (machine_any 8 8 _ (by omega) (by omega) (by omega) (by omega)).mono ?_
  rintro e w1 ⟨rfl, hb1⟩
  rw [pm]
  have hz1 := hb1.size
  go_wp2_with fail
  refine (picked_any _ _ _ (by omega) (by omega) (by omega) (by omega)).mono ?_
  rintro e w' ⟨rfl, rfl⟩
  generalize pickedOf r 10 = n at *
  have h3 : pickedOf wh 3 = 0 ∨ pickedOf wh 3 = 1 ∨ pickedOf wh 3 = 2 := by omega
  rcases h3 with hw | hw | hw
  · cases l
    · go_wp2_with fail
      refine (picked_is _ _ 0 _ hw (by omega) (by omega) (by omega) (by omega)).mono ?_
      rintro e w' ⟨rfl, rfl⟩
      go_wp2_with fail
      refine (check_is (clF [⟨1, 0, false, 4, n⟩, ⟨2, 1, true, 4, n⟩] []) 10 10 _ _ _ 0 (clF0 n false p0 p0') ?_ ?_).mono ?_
      · exact (SlOf_two (k := 1) (R := RInt) [.int .i64 0] [.int .i64 0] rfl rfl rfl rfl (cells1 (by go_simp)) (cells1 (by go_simp)))
      · exact (SlOf_one (k := 3) (R := (RBlk _)) [.slice none 0 0, .slice (some ⟨w1.heap.size + 1 + 1 + 1 + 1 + 1 + 1 + 1, 0, none⟩) 2 2, .slice none 0 0] rfl ⟨_, _, _, rfl, (SlOf_nil _ 1 RInt _ _), (SlOf_two (k := 3) (R := (RIns _)) [.int .i64 0, .slice (some ⟨w1.heap.size + 1 + 1 + 1 + 1 + 1 + 1, 0, none⟩) 1 1, .slice none 0 0] [.int .i64 0, .slice (some ⟨w1.heap.size + 1 + 1 + 1, 0, none⟩) 2 2, .slice none 0 0] rfl rfl ⟨_, _, rfl, (SlOf_one (k := 5) (R := ROpr) [.int .i64 2, .int .i64 0, .bool false, .int .i64 1, .int .i64 0] rfl rfl (cells5 (by go_simp) (by go_simp) (by go_simp) (by go_simp) (by go_simp))), (SlOf_nil _ 2 RRg _ _)⟩ ⟨_, _, rfl, (SlOf_two (k := 5) (R := ROpr) [.int .i64 1, .int .i64 0, .bool false, .int .i64 4, .int .i64 n] [.int .i64 2, .int .i64 1, .bool true, .int .i64 4, .int .i64 n] rfl rfl rfl rfl (cells5 (by go_simp) (by go_simp) (by go_simp) (by go_simp) (by go_simp)) (cells5 (by go_simp) (by go_simp) (by go_simp) (by go_simp) (by go_simp))), (SlOf_nil _ 2 RRg _ _)⟩ (cells3 (by go_simp) (by go_simp) (by go_simp)) (cells3 (by go_simp) (by go_simp) (by go_simp))), (SlOf_nil _ 2 (REdg _) _ _)⟩ (cells3 (by go_simp) (by go_simp) (by go_simp)))
      rintro e w2 ⟨rfl, hb2⟩
      go_wp2
      go_ret
      exact ⟨rfl, (hb1.trans (Below.trans (by repeat (first | exact Below.refl _ _ | refine Below.alloc ?_ (by first | omega | (simp; omega)) _)) (hb2.mono (by simp; omega))))⟩
    · go_wp2_with fail
      refine (picked_is _ _ 0 _ hw (by omega) (by omega) (by omega) (by omega)).mono ?_
      rintro e w' ⟨rfl, rfl⟩
      go_wp2_with fail
      refine (check_is (clF [⟨1, 0, true, 4, n⟩, ⟨2, 1, true, 4, n⟩] []) 10 10 _ _ _ 12 (clF0 n true p0 p0') ?_ ?_).mono ?_
      · exact (SlOf_two (k := 1) (R := RInt) [.int .i64 0] [.int .i64 0] rfl rfl rfl rfl (cells1 (by go_simp)) (cells1 (by go_simp)))
      · exact (SlOf_one (k := 3) (R := (RBlk _)) [.slice none 0 0, .slice (some ⟨w1.heap.size + 1 + 1 + 1 + 1 + 1 + 1 + 1, 0, none⟩) 2 2, .slice none 0 0] rfl ⟨_, _, _, rfl, (SlOf_nil _ 1 RInt _ _), (SlOf_two (k := 3) (R := (RIns _)) [.int .i64 0, .slice (some ⟨w1.heap.size + 1 + 1 + 1 + 1 + 1 + 1, 0, none⟩) 1 1, .slice none 0 0] [.int .i64 0, .slice (some ⟨w1.heap.size + 1 + 1 + 1, 0, none⟩) 2 2, .slice none 0 0] rfl rfl ⟨_, _, rfl, (SlOf_one (k := 5) (R := ROpr) [.int .i64 2, .int .i64 0, .bool false, .int .i64 1, .int .i64 0] rfl rfl (cells5 (by go_simp) (by go_simp) (by go_simp) (by go_simp) (by go_simp))), (SlOf_nil _ 2 RRg _ _)⟩ ⟨_, _, rfl, (SlOf_two (k := 5) (R := ROpr) [.int .i64 1, .int .i64 0, .bool true, .int .i64 4, .int .i64 n] [.int .i64 2, .int .i64 1, .bool true, .int .i64 4, .int .i64 n] rfl rfl rfl rfl (cells5 (by go_simp) (by go_simp) (by go_simp) (by go_simp) (by go_simp)) (cells5 (by go_simp) (by go_simp) (by go_simp) (by go_simp) (by go_simp))), (SlOf_nil _ 2 RRg _ _)⟩ (cells3 (by go_simp) (by go_simp) (by go_simp)) (cells3 (by go_simp) (by go_simp) (by go_simp))), (SlOf_nil _ 2 (REdg _) _ _)⟩ (cells3 (by go_simp) (by go_simp) (by go_simp)))
      rintro e w2 ⟨rfl, hb2⟩
      go_wp2
      go_ret
      exact ⟨rfl, (hb1.trans (Below.trans (by repeat (first | exact Below.refl _ _ | refine Below.alloc ?_ (by first | omega | (simp; omega)) _)) (hb2.mono (by simp; omega))))⟩
  · cases l
    · go_wp2_with fail
      refine (picked_is _ _ 1 _ hw (by omega) (by omega) (by omega) (by omega)).mono ?_
      rintro e w' ⟨rfl, rfl⟩
      go_wp2_with fail
      refine (check_is (clF [⟨1, 0, false, 4, n⟩, ⟨2, 1, true, 1, 0⟩] [⟨0, n⟩]) 10 10 _ _ _ 0 (clF1 n false p0 p0') ?_ ?_).mono ?_
      · exact (SlOf_two (k := 1) (R := RInt) [.int .i64 0] [.int .i64 0] rfl rfl rfl rfl (cells1 (by go_simp)) (cells1 (by go_simp)))
      · exact (SlOf_one (k := 3) (R := (RBlk _)) [.slice none 0 0, .slice (some ⟨w1.heap.size + 1 + 1 + 1 + 1 + 1 + 1 + 1 + 1 + 1, 0, none⟩) 2 2, .slice none 0 0] rfl ⟨_, _, _, rfl, (SlOf_nil _ 1 RInt _ _), (SlOf_two (k := 3) (R := (RIns _)) [.int .i64 0, .slice (some ⟨w1.heap.size + 1 + 1 + 1 + 1 + 1 + 1 + 1 + 1, 0, none⟩) 1 1, .slice none 0 0] [.int .i64 0, .slice (some ⟨w1.heap.size + 1 + 1 + 1 + 1 + 1, 0, none⟩) 2 2, .slice (some ⟨w1.heap.size + 1 + 1 + 1 + 1 + 1 + 1, 0, none⟩) 1 1] rfl rfl ⟨_, _, rfl, (SlOf_one (k := 5) (R := ROpr) [.int .i64 2, .int .i64 0, .bool false, .int .i64 1, .int .i64 0] rfl rfl (cells5 (by go_simp) (by go_simp) (by go_simp) (by go_simp) (by go_simp))), (SlOf_nil _ 2 RRg _ _)⟩ ⟨_, _, rfl, (SlOf_two (k := 5) (R := ROpr) [.int .i64 1, .int .i64 0, .bool false, .int .i64 4, .int .i64 n] [.int .i64 2, .int .i64 1, .bool true, .int .i64 1, .int .i64 0] rfl rfl rfl rfl (cells5 (by go_simp) (by go_simp) (by go_simp) (by go_simp) (by go_simp)) (cells5 (by go_simp) (by go_simp) (by go_simp) (by go_simp) (by go_simp))), (SlOf_one (k := 2) (R := RRg) [.int .i64 0, .int .i64 n] rfl rfl (cells2 (by go_simp) (by go_simp)))⟩ (cells3 (by go_simp) (by go_simp) (by go_simp)) (cells3 (by go_simp) (by go_simp) (by go_simp))), (SlOf_nil _ 2 (REdg _) _ _)⟩ (cells3 (by go_simp) (by go_simp) (by go_simp)))
      rintro e w2 ⟨rfl, hb2⟩
      go_wp2
      go_ret
      exact ⟨rfl, (hb1.trans (Below.trans (by repeat (first | exact Below.refl _ _ | refine Below.alloc ?_ (by first | omega | (simp; omega)) _)) (hb2.mono (by simp; omega))))⟩
    · go_wp2_with fail
      refine (picked_is _ _ 1 _ hw (by omega) (by omega) (by omega) (by omega)).mono ?_
      rintro e w' ⟨rfl, rfl⟩
      go_wp2_with fail
      refine (check_is (clF [⟨1, 0, true, 4, n⟩, ⟨2, 1, true, 1, 0⟩] [⟨0, n⟩]) 10 10 _ _ _ 12 (clF1 n true p0 p0') ?_ ?_).mono ?_
      · exact (SlOf_two (k := 1) (R := RInt) [.int .i64 0] [.int .i64 0] rfl rfl rfl rfl (cells1 (by go_simp)) (cells1 (by go_simp)))
      · exact (SlOf_one (k := 3) (R := (RBlk _)) [.slice none 0 0, .slice (some ⟨w1.heap.size + 1 + 1 + 1 + 1 + 1 + 1 + 1 + 1 + 1, 0, none⟩) 2 2, .slice none 0 0] rfl ⟨_, _, _, rfl, (SlOf_nil _ 1 RInt _ _), (SlOf_two (k := 3) (R := (RIns _)) [.int .i64 0, .slice (some ⟨w1.heap.size + 1 + 1 + 1 + 1 + 1 + 1 + 1 + 1, 0, none⟩) 1 1, .slice none 0 0] [.int .i64 0, .slice (some ⟨w1.heap.size + 1 + 1 + 1 + 1 + 1, 0, none⟩) 2 2, .slice (some ⟨w1.heap.size + 1 + 1 + 1 + 1 + 1 + 1, 0, none⟩) 1 1] rfl rfl ⟨_, _, rfl, (SlOf_one (k := 5) (R := ROpr) [.int .i64 2, .int .i64 0, .bool false, .int .i64 1, .int .i64 0] rfl rfl (cells5 (by go_simp) (by go_simp) (by go_simp) (by go_simp) (by go_simp))), (SlOf_nil _ 2 RRg _ _)⟩ ⟨_, _, rfl, (SlOf_two (k := 5) (R := ROpr) [.int .i64 1, .int .i64 0, .bool true, .int .i64 4, .int .i64 n] [.int .i64 2, .int .i64 1, .bool true, .int .i64 1, .int .i64 0] rfl rfl rfl rfl (cells5 (by go_simp) (by go_simp) (by go_simp) (by go_simp) (by go_simp)) (cells5 (by go_simp) (by go_simp) (by go_simp) (by go_simp) (by go_simp))), (SlOf_one (k := 2) (R := RRg) [.int .i64 0, .int .i64 n] rfl rfl (cells2 (by go_simp) (by go_simp)))⟩ (cells3 (by go_simp) (by go_simp) (by go_simp)) (cells3 (by go_simp) (by go_simp) (by go_simp))), (SlOf_nil _ 2 (REdg _) _ _)⟩ (cells3 (by go_simp) (by go_simp) (by go_simp)))
      rintro e w2 ⟨rfl, hb2⟩
      go_wp2
      go_ret
      exact ⟨rfl, (hb1.trans (Below.trans (by repeat (first | exact Below.refl _ _ | refine Below.alloc ?_ (by first | omega | (simp; omega)) _)) (hb2.mono (by simp; omega))))⟩
  · cases l
    · go_wp2_with fail
      refine (picked_is _ _ 2 _ hw (by omega) (by omega) (by omega) (by omega)).mono ?_
      rintro e w' ⟨rfl, rfl⟩
      go_wp2_with fail
      refine (check_is (clF [⟨1, 0, false, 4, n⟩, ⟨2, 1, false, 4, n⟩] []) 10 10 _ _ _ 12 (clF2 n false p0 p0') ?_ ?_).mono ?_
      · exact (SlOf_two (k := 1) (R := RInt) [.int .i64 0] [.int .i64 0] rfl rfl rfl rfl (cells1 (by go_simp)) (cells1 (by go_simp)))
      · exact (SlOf_one (k := 3) (R := (RBlk _)) [.slice none 0 0, .slice (some ⟨w1.heap.size + 1 + 1 + 1 + 1 + 1 + 1 + 1 + 1, 0, none⟩) 2 2, .slice none 0 0] rfl ⟨_, _, _, rfl, (SlOf_nil _ 1 RInt _ _), (SlOf_two (k := 3) (R := (RIns _)) [.int .i64 0, .slice (some ⟨w1.heap.size + 1 + 1 + 1 + 1 + 1 + 1 + 1, 0, none⟩) 1 1, .slice none 0 0] [.int .i64 0, .slice (some ⟨w1.heap.size + 1 + 1 + 1 + 1 + 1, 0, none⟩) 2 2, .slice none 0 0] rfl rfl ⟨_, _, rfl, (SlOf_one (k := 5) (R := ROpr) [.int .i64 2, .int .i64 0, .bool false, .int .i64 1, .int .i64 0] rfl rfl (cells5 (by go_simp) (by go_simp) (by go_simp) (by go_simp) (by go_simp))), (SlOf_nil _ 2 RRg _ _)⟩ ⟨_, _, rfl, (SlOf_two (k := 5) (R := ROpr) [.int .i64 1, .int .i64 0, .bool false, .int .i64 4, .int .i64 n] [.int .i64 2, .int .i64 1, .bool false, .int .i64 4, .int .i64 n] rfl rfl rfl rfl (cells5 (by go_simp) (by go_simp) (by go_simp) (by go_simp) (by go_simp)) (cells5 (by go_simp) (by go_simp) (by go_simp) (by go_simp) (by go_simp))), (SlOf_nil _ 2 RRg _ _)⟩ (cells3 (by go_simp) (by go_simp) (by go_simp)) (cells3 (by go_simp) (by go_simp) (by go_simp))), (SlOf_nil _ 2 (REdg _) _ _)⟩ (cells3 (by go_simp) (by go_simp) (by go_simp)))
      rintro e w2 ⟨rfl, hb2⟩
      go_wp2
      go_ret
      exact ⟨rfl, (hb1.trans (Below.trans (by repeat (first | exact Below.refl _ _ | refine Below.alloc ?_ (by first | omega | (simp; omega)) _)) (hb2.mono (by simp; omega))))⟩
    · go_wp2_with fail
      refine (picked_is _ _ 2 _ hw (by omega) (by omega) (by omega) (by omega)).mono ?_
      rintro e w' ⟨rfl, rfl⟩
      go_wp2_with fail
      refine (check_is (clF [⟨1, 0, true, 4, n⟩, ⟨2, 1, false, 4, n⟩] []) 10 10 _ _ _ 12 (clF2 n true p0 p0') ?_ ?_).mono ?_
      · exact (SlOf_two (k := 1) (R := RInt) [.int .i64 0] [.int .i64 0] rfl rfl rfl rfl (cells1 (by go_simp)) (cells1 (by go_simp)))
      · exact (SlOf_one (k := 3) (R := (RBlk _)) [.slice none 0 0, .slice (some ⟨w1.heap.size + 1 + 1 + 1 + 1 + 1 + 1 + 1 + 1, 0, none⟩) 2 2, .slice none 0 0] rfl ⟨_, _, _, rfl, (SlOf_nil _ 1 RInt _ _), (SlOf_two (k := 3) (R := (RIns _)) [.int .i64 0, .slice (some ⟨w1.heap.size + 1 + 1 + 1 + 1 + 1 + 1 + 1, 0, none⟩) 1 1, .slice none 0 0] [.int .i64 0, .slice (some ⟨w1.heap.size + 1 + 1 + 1 + 1 + 1, 0, none⟩) 2 2, .slice none 0 0] rfl rfl ⟨_, _, rfl, (SlOf_one (k := 5) (R := ROpr) [.int .i64 2, .int .i64 0, .bool false, .int .i64 1, .int .i64 0] rfl rfl (cells5 (by go_simp) (by go_simp) (by go_simp) (by go_simp) (by go_simp))), (SlOf_nil _ 2 RRg _ _)⟩ ⟨_, _, rfl, (SlOf_two (k := 5) (R := ROpr) [.int .i64 1, .int .i64 0, .bool true, .int .i64 4, .int .i64 n] [.int .i64 2, .int .i64 1, .bool false, .int .i64 4, .int .i64 n] rfl rfl rfl rfl (cells5 (by go_simp) (by go_simp) (by go_simp) (by go_simp) (by go_simp)) (cells5 (by go_simp) (by go_simp) (by go_simp) (by go_simp) (by go_simp))), (SlOf_nil _ 2 RRg _ _)⟩ (cells3 (by go_simp) (by go_simp) (by go_simp)) (cells3 (by go_simp) (by go_simp) (by go_simp))), (SlOf_nil _ 2 (REdg _) _ _)⟩ (cells3 (by go_simp) (by go_simp) (by go_simp)))
      rintro e w2 ⟨rfl, hb2⟩
      go_wp2
      go_ret
      exact ⟨rfl, (hb1.trans (Below.trans (by repeat (first | exact Below.refl _ _ | refine Below.alloc ?_ (by first | omega | (simp; omega)) _)) (hb2.mono (by simp; omega))))⟩
end Go.Proofs.Ytnghhhlcifpiaab
