/-
  The contract of the statements' own 'Machine'; and how a slice that a call has made reads as a list.
-/
import Derived.Test.YtdlglinbjkaokabRep
import Derived.Test.YtdlglinbjkaokabMach
namespace Go.Proofs.Ytdlglinbjkaokab
open Go.RowKit
set_option linter.unusedVariables false

theorem machine_any (a b : Int) (w : World) (ha : -9223372036854775808 ≤ a) (ha' : a ≤ 9223372036854775807) (hb : -9223372036854775808 ≤ b) (hb' : b ≤ 9223372036854775807) :
    Calls Try.prog 14 #[.int .i64 a, .int .i64 b] w fun e w' => e = .returned (.agg #[.int .i64 (2 + pickedOf a 9), .int .i64 (2 + pickedOf b 9)]) ∧ Below w.heap.size w w' := by
  obtain ⟨p0, p0'⟩ := pickedOf_bd a 9 (by omega)
  obtain ⟨p1, p1'⟩ := pickedOf_bd b 9 (by omega)
  go_enter Try.func14, Try.ntmps14
  go_wp2_with (go_at_call 4; refine (picked_any _ _ _ (by omega) (by omega) (by omega) (by omega)).mono ?_; rintro e w' ⟨rfl, rfl⟩)
  exact bodyPost_ret (v := .agg #[.int .i64 (2 + pickedOf a 9), .int .i64 (2 + pickedOf b 9)]) (by simp [results, Try.results14, go_sem]) rfl ⟨rfl, (Below.refl _ _).alloc (Nat.le_refl _) _⟩

theorem picked_is (n many r : Int) (w : World) (h : pickedOf n many = r) (hn : -9223372036854775808 ≤ n) (hn' : n ≤ 9223372036854775807) (h0 : 0 < many) (h1 : many ≤ 4611686018427387904) :
    Calls Try.prog 4 #[.int .i64 n, .int .i64 many] w fun e w' => e = .returned (.int .i64 r) ∧ w' = w := by
  rw [← h]; exact picked_any n many w hn hn' h0 h1

theorem SlOf_nil {α : Type} (w : World) (k : Nat) (R : List Value → α → Prop) (a : Option Addr) (cap : Nat) : SlOf w k R (.slice a 0 cap) [] := ⟨a, cap, rfl, by simp [longest], Or.inl rfl⟩
theorem SlOf_one {α : Type} {w : World} {k : Nat} {R : List Value → α → Prop} {b off cap : Nat} {x : α} (cs : List Value) (hk : cs.length = k) (hR : R cs x) (hc : ∀ j (hj : j < cs.length), w.cell? ⟨b, off + j, none⟩ = some cs[j]) : SlOf w k R (.slice (some ⟨b, off, none⟩) 1 cap) [x] := by
  refine ⟨_, cap, rfl, by simp [longest], Or.inr ⟨b, off, rfl, fun i hi => ?_⟩⟩
  have e : i = 0 := by simp at hi; omega
  subst e
  exact ⟨cs, hk, hR, fun j hj => by simpa using hc j hj⟩
theorem SlOf_two {α : Type} {w : World} {k : Nat} {R : List Value → α → Prop} {b off cap : Nat} {x y : α} (cs ds : List Value) (hk : cs.length = k) (hk' : ds.length = k) (hR : R cs x) (hR' : R ds y) (hc : ∀ j (hj : j < cs.length), w.cell? ⟨b, off + j, none⟩ = some cs[j]) (hd : ∀ j (hj : j < ds.length), w.cell? ⟨b, off + k + j, none⟩ = some ds[j]) : SlOf w k R (.slice (some ⟨b, off, none⟩) 2 cap) [x, y] := by
  refine ⟨_, cap, rfl, by simp [longest], Or.inr ⟨b, off, rfl, fun i hi => ?_⟩⟩
  have e : i = 0 ∨ i = 1 := by simp at hi; omega
  rcases e with rfl | rfl
  · exact ⟨cs, hk, hR, fun j hj => by simpa using hc j hj⟩
  · exact ⟨ds, hk', hR', fun j hj => by simpa using hd j hj⟩
theorem cells1 {w : World} {b off : Nat} {c0 : Value} (h0 : w.cell? ⟨b, off, none⟩ = some c0) : ∀ j (hj : j < [c0].length), w.cell? ⟨b, off + j, none⟩ = some [c0][j] := by
  intro j hj
  match j, hj with
  | 0, _ => exact h0
theorem cells2 {w : World} {b off : Nat} {c0 c1 : Value} (h0 : w.cell? ⟨b, off, none⟩ = some c0) (h1 : w.cell? ⟨b, off + 1, none⟩ = some c1) : ∀ j (hj : j < [c0, c1].length), w.cell? ⟨b, off + j, none⟩ = some [c0, c1][j] := by
  intro j hj
  match j, hj with
  | 0, _ => exact h0
  | 1, _ => exact h1
theorem cells3 {w : World} {b off : Nat} {c0 c1 c2 : Value} (h0 : w.cell? ⟨b, off, none⟩ = some c0) (h1 : w.cell? ⟨b, off + 1, none⟩ = some c1) (h2 : w.cell? ⟨b, off + 2, none⟩ = some c2) : ∀ j (hj : j < [c0, c1, c2].length), w.cell? ⟨b, off + j, none⟩ = some [c0, c1, c2][j] := by
  intro j hj
  match j, hj with
  | 0, _ => exact h0
  | 1, _ => exact h1
  | 2, _ => exact h2
theorem cells5 {w : World} {b off : Nat} {c0 c1 c2 c3 c4 : Value} (h0 : w.cell? ⟨b, off, none⟩ = some c0) (h1 : w.cell? ⟨b, off + 1, none⟩ = some c1) (h2 : w.cell? ⟨b, off + 2, none⟩ = some c2) (h3 : w.cell? ⟨b, off + 3, none⟩ = some c3) (h4 : w.cell? ⟨b, off + 4, none⟩ = some c4) : ∀ j (hj : j < [c0, c1, c2, c3, c4].length), w.cell? ⟨b, off + j, none⟩ = some [c0, c1, c2, c3, c4][j] := by
  intro j hj
  match j, hj with
  | 0, _ => exact h0
  | 1, _ => exact h1
  | 2, _ => exact h2
  | 3, _ => exact h3
  | 4, _ => exact h4

end Go.Proofs.Ytdlglinbjkaokab
