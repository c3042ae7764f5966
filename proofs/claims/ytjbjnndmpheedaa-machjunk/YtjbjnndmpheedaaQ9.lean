/-
  The contract of 'filled': all places have junk.
-/
import Derived.Test.YtjbjnndmpheedaaQ8
import Derived.Deep.DeepCutAuto
import Derived.Deep.CutBlock
namespace Go.Proofs.Ytjbjnndmpheedaa
open Go.RowKit
set_option linter.unusedVariables false

def regPl (c : Nat) (n : Nat) : List Pl := (List.range n).map fun (r : Nat) => ⟨1, (c : Int), (r : Int)⟩
def slPl (n : Nat) : List Pl := (List.range n).map fun (r : Nat) => ⟨2, 0, (r : Int)⟩
def s00 : Pm := ⟨fun _ => 0, fun _ => 0, 0⟩
def mcOf (m0 m1 c : Nat) : Nat := if c = 0 then m0 else m1
/-- The registers of c classes have junk. -/
def fillR (jl : List Int) (m0 m1 : Nat) : Nat → Pm
  | 0 => s00
  | c + 1 => (regPl c (mcOf m0 m1 c + 1)).foldl (junkAt jl) (fillR jl m0 m1 c)
/-- What places have at first. -/
def fillM (jl : List Int) (m0 m1 fr : Nat) : Pm := (slPl fr).foldl (junkAt jl) (fillR jl m0 m1 2)
theorem regPl_succ (jl : List Int) (c r : Nat) (s : Pm) : (regPl c (r + 1)).foldl (junkAt jl) s = junkAt jl ((regPl c r).foldl (junkAt jl) s) ⟨1, (c : Int), (r : Int)⟩ := by
  unfold regPl
  rw [List.range_succ, List.map_append, List.foldl_append]
  rfl
theorem slPl_succ (jl : List Int) (r : Nat) (s : Pm) : (slPl (r + 1)).foldl (junkAt jl) s = junkAt jl ((slPl r).foldl (junkAt jl) s) ⟨2, 0, (r : Int)⟩ := by
  unfold slPl
  rw [List.range_succ, List.map_append, List.foldl_append]
  rfl
def stF (G fr : Nat) (aj : Option Addr) (nj cj : Nat) (s : Pm) : Nat → Value := fun q =>
  if q < 22 then .int .i64 (s.reg q) else if q = 22 then .slice (some ⟨G, 0, none⟩) fr fr else if q = 23 then .slice aj nj cj else .int .i64 (s.nx : Int)
/-- The store while it is filled. -/
structure FlS (w0 : World) (N fr m0 m1 : Nat) (aj : Option Addr) (nj cj : Nat) (jl : List Int) (s : Pm) (w : World) : Prop where
  mc : w.rowIs N 28 2 (fun q => if q = 0 then .int .i64 (m0 : Int) else .int .i64 (m1 : Int))
  rs : w.rowIs (N + 1) 85 25 (fun q => if q < 22 then .int .i64 0 else if q = 22 then .slice none 0 0 else if q = 23 then .slice none 0 0 else .int .i64 0)
  sl : w.rowIs (N + 2) 3 fr (fun i => .int .i64 (s.sl i))
  bx : w.rowIs (N + 3) 85 25 (stF (N + 2) fr aj nj cj s)
  low : Below N w0 w
  ok : NxOk jl s
section
variable {w0 : World} {N fr m0 m1 : Nat} {aj : Option Addr} {nj cj : Nat} {jl : List Int} {s : Pm} {w w' : World}
theorem FlS.below (h : FlS w0 N fr m0 m1 aj nj cj jl s w) (hb : Below w.heap.size w w') : FlS w0 N fr m0 m1 aj nj cj jl s w' :=
  ⟨h.mc.of_block (hb.block _ h.mc.lt), h.rs.of_block (hb.block _ h.rs.lt), h.sl.of_block (hb.block _ h.sl.lt), h.bx.of_block (hb.block _ h.bx.lt), h.low.trans (hb.mono (by have := h.bx.lt; omega)), h.ok⟩
/-- The next junk is drawn. -/
theorem FlS.junk (h : FlS w0 N fr m0 m1 aj nj cj jl s w) (hj : SlOf w0 1 RInt (.slice aj nj cj) jl) (hN : w0.heap.size = N) (hl : jl.length = nj) (hnj : nj ≤ 64) :
    Calls Try.prog 41 #[.pointer (some ⟨N + 3, 0, none⟩)] w fun e w' => e = .returned (.int .i64 (jl.getD s.nx 0)) ∧ FlS w0 N fr m0 m1 aj nj cj jl { s with nx := nxJ jl.length s.nx } w' ∧ w.heap.size ≤ w'.heap.size := by
  have hlow : Below w0.heap.size w0 w := by rw [hN]; exact h.low
  refine (nextJunk_any (N + 3) 0 s.nx nj cj 85 25 aj jl _ w h.bx (by omega) (by rfl) (by rfl) (hj.below hlow fun _ _ h => h) hl (by have := h.ok; unfold NxOk at this; omega) hnj).mono ?_
  rintro e w' ⟨rfl, hr, hg⟩
  have nN : ∀ q, q ≠ N + 3 → some q ≠ some (N + 3) := fun q hq e => hq (by simpa using e)
  refine ⟨rfl, ⟨h.mc.of_block (hg.block _ h.mc.lt (fun e => by simp at e)), h.rs.of_block (hg.block _ h.rs.lt (fun e => by simp at e)), h.sl.of_block (hg.block _ h.sl.lt (fun e => by simp at e)), hr.congr fun i hi => ?_, h.low.trans (mg_low hg (by have := h.bx.lt; omega) (by omega)), ?_⟩, hg.size⟩
  · unfold stF nxJ
    rw [hl]
    by_cases e : i = 24
    · subst e
      simp
    · rw [if_neg (by omega)]
      by_cases e2 : i < 22
      · simp [e2]
      · by_cases e3 : i = 22
        · simp [e3]
        · have e4 : i = 23 := by omega
          simp [e4]
  · have := nx_next h.ok ⟨1, 0, 0⟩
    unfold NxOk junkAt at *
    rw [putP_nx] at this
    exact this
theorem FlS.setR (h : FlS w0 N fr m0 m1 aj nj cj jl s w) (c r : Nat) (hc : c < 2) (hr : r < 11) (v : Int) : FlS w0 N fr m0 m1 aj nj cj jl (putP s ⟨1, (c : Int), (r : Int)⟩ v) (w.setCell ⟨N + 3, c * 11 + r, none⟩ (.int .i64 v)) := by
  unfold putP regI
  rw [if_pos rfl]
  simp only [Int.toNat_natCast]
  refine ⟨h.mc.setOther (by simp) _, h.rs.setOther (by simp) _, h.sl.setOther (by simp) _, (h.bx.set _ _).congr fun i hi => ?_, h.low.setCell (by simp) _, h.ok⟩
  unfold stF upR
  by_cases e : i = c * 11 + r
  · subst e
    rw [if_pos rfl, if_pos (by omega)]
    simp
  · rw [if_neg e]
    simp only [if_neg e]
theorem FlS.setS (h : FlS w0 N fr m0 m1 aj nj cj jl s w) (r : Nat) (v : Int) : FlS w0 N fr m0 m1 aj nj cj jl (putP s ⟨2, 0, (r : Int)⟩ v) (w.setCell ⟨N + 2, r, none⟩ (.int .i64 v)) := by
  unfold putP
  rw [if_neg (by intro h; simp at h)]
  simp only [Int.toNat_natCast]
  refine ⟨h.mc.setOther (by simp) _, h.rs.setOther (by simp) _, (h.sl.set _ _).congr fun i hi => ?_, h.bx.setOther (by simp) _, h.low.setCell (by simp) _, h.ok⟩
  unfold upR
  by_cases e : i = r <;> simp [e]
end
theorem putP_nxc (s : Pm) (p : Pl) (v : Int) (k : Nat) : putP { s with nx := k } p v = { putP s p v with nx := k } := by unfold putP; split <;> rfl

theorem stF_reg {G fr nj cj q : Nat} {aj : Option Addr} {s : Pm} (h : q < 22) : stF G fr aj nj cj s q = .int .i64 (s.reg q) := by unfold stF; rw [if_pos h]
theorem FlS.mc0 {w0 : World} {N fr m0 m1 : Nat} {aj : Option Addr} {nj cj : Nat} {jl : List Int} {s : Pm} {w : World} (h : FlS w0 N fr m0 m1 aj nj cj jl s w) : w.cell? ⟨N, 0, none⟩ = some (.int .i64 (m0 : Int)) := h.mc.cell (i := 0) (by omega)
theorem FlS.sl22 {w0 : World} {N fr m0 m1 : Nat} {aj : Option Addr} {nj cj : Nat} {jl : List Int} {s : Pm} {w : World} (h : FlS w0 N fr m0 m1 aj nj cj jl s w) : w.cell? ⟨N + 3, 22, none⟩ = some (.slice (some ⟨N + 2, 0, none⟩) fr fr) := h.bx.cell (i := 22) (by omega)
theorem fl_start (N fr m0 m1 nj cj : Nat) (aj : Option Addr) (jl : List Int) (w W : World) (hN : w.heap.size = N) (hl : jl.length = nj) (hW : W = (((w.alloc (.cells #[.int .i64 (m0 : Int), .int .i64 (m1 : Int)] 28)).alloc (.cells #[.int .i64 0, .int .i64 0, .int .i64 0, .int .i64 0, .int .i64 0, .int .i64 0, .int .i64 0, .int .i64 0, .int .i64 0, .int .i64 0, .int .i64 0, .int .i64 0, .int .i64 0, .int .i64 0, .int .i64 0, .int .i64 0, .int .i64 0, .int .i64 0, .int .i64 0, .int .i64 0, .int .i64 0, .int .i64 0, .slice none 0 0, .slice none 0 0, .int .i64 0] 85)).alloc (.cells (madeCells #[.int .i64 0] fr) 3)).alloc (.cells #[.int .i64 0, .int .i64 0, .int .i64 0, .int .i64 0, .int .i64 0, .int .i64 0, .int .i64 0, .int .i64 0, .int .i64 0, .int .i64 0, .int .i64 0, .int .i64 0, .int .i64 0, .int .i64 0, .int .i64 0, .int .i64 0, .int .i64 0, .int .i64 0, .int .i64 0, .int .i64 0, .int .i64 0, .int .i64 0, .slice (some ⟨N + 2, 0, none⟩) fr fr, .slice aj nj cj, .int .i64 0] 85)) : FlS w N fr m0 m1 aj nj cj jl s00 W := by
  obtain ⟨W1, hW1⟩ : ∃ W1, W1 = w.alloc (.cells #[.int .i64 (m0 : Int), .int .i64 (m1 : Int)] 28) := ⟨_, rfl⟩
  obtain ⟨W2, hW2⟩ : ∃ W2, W2 = W1.alloc (.cells #[.int .i64 0, .int .i64 0, .int .i64 0, .int .i64 0, .int .i64 0, .int .i64 0, .int .i64 0, .int .i64 0, .int .i64 0, .int .i64 0, .int .i64 0, .int .i64 0, .int .i64 0, .int .i64 0, .int .i64 0, .int .i64 0, .int .i64 0, .int .i64 0, .int .i64 0, .int .i64 0, .int .i64 0, .int .i64 0, .slice none 0 0, .slice none 0 0, .int .i64 0] 85) := ⟨_, rfl⟩
  obtain ⟨W3, hW3⟩ : ∃ W3, W3 = W2.alloc (.cells (madeCells #[.int .i64 0] fr) 3) := ⟨_, rfl⟩
  have hW4 : W = W3.alloc (.cells #[.int .i64 0, .int .i64 0, .int .i64 0, .int .i64 0, .int .i64 0, .int .i64 0, .int .i64 0, .int .i64 0, .int .i64 0, .int .i64 0, .int .i64 0, .int .i64 0, .int .i64 0, .int .i64 0, .int .i64 0, .int .i64 0, .int .i64 0, .int .i64 0, .int .i64 0, .int .i64 0, .int .i64 0, .int .i64 0, .slice (some ⟨N + 2, 0, none⟩) fr fr, .slice aj nj cj, .int .i64 0] 85) := by rw [hW, hW3, hW2, hW1]
  have s1 : W1.heap.size = N + 1 := by rw [hW1]; simp [hN]
  have s2 : W2.heap.size = N + 2 := by rw [hW2]; simp [s1]
  have s3 : W3.heap.size = N + 3 := by rw [hW3]; simp [s2]
  have r1 : W1.rowIs N 28 2 (fun q => if q = 0 then .int .i64 (m0 : Int) else .int .i64 (m1 : Int)) := by
    rw [hW1, ← hN]
    exact World.rowIs_alloc _ _ _ _ fun i hi => by
      simp at hi
      match i, hi with | 0, _ => rfl | 1, _ => rfl
  have r2 : W2.rowIs (N + 1) 85 25 (fun q => if q < 22 then .int .i64 0 else if q = 22 then .slice none 0 0 else if q = 23 then .slice none 0 0 else .int .i64 0) := by
    rw [hW2, ← s1]
    exact World.rowIs_alloc _ _ _ _ fun i hi => by
      simp at hi
      match i, hi with | 0, _ => rfl | 1, _ => rfl | 2, _ => rfl | 3, _ => rfl | 4, _ => rfl | 5, _ => rfl | 6, _ => rfl | 7, _ => rfl | 8, _ => rfl | 9, _ => rfl | 10, _ => rfl | 11, _ => rfl | 12, _ => rfl | 13, _ => rfl | 14, _ => rfl | 15, _ => rfl | 16, _ => rfl | 17, _ => rfl | 18, _ => rfl | 19, _ => rfl | 20, _ => rfl | 21, _ => rfl | 22, _ => rfl | 23, _ => rfl | 24, _ => rfl | n + 25, h => exact absurd h (by omega)
  have r3 := World.rowIs_made W2 (.int .i64 0) fr 3
  rw [← hW3, s2] at r3
  have r4 : W.rowIs (N + 3) 85 25 (stF (N + 2) fr aj nj cj s00) := by
    rw [hW4, ← s3]
    exact World.rowIs_alloc _ _ _ _ fun i hi => by
      simp at hi
      match i, hi with | 0, _ => rfl | 1, _ => rfl | 2, _ => rfl | 3, _ => rfl | 4, _ => rfl | 5, _ => rfl | 6, _ => rfl | 7, _ => rfl | 8, _ => rfl | 9, _ => rfl | 10, _ => rfl | 11, _ => rfl | 12, _ => rfl | 13, _ => rfl | 14, _ => rfl | 15, _ => rfl | 16, _ => rfl | 17, _ => rfl | 18, _ => rfl | 19, _ => rfl | 20, _ => rfl | 21, _ => rfl | 22, _ => rfl | 23, _ => rfl | 24, _ => rfl | n + 25, h => exact absurd h (by omega)
  have b1 : Below w.heap.size w W1 := by rw [hW1]; exact (Below.refl _ _).alloc (Nat.le_refl _) _
  have b2 : Below W1.heap.size W1 W2 := by rw [hW2]; exact (Below.refl _ _).alloc (Nat.le_refl _) _
  have b3 : Below W2.heap.size W2 W3 := by rw [hW3]; exact (Below.refl _ _).alloc (Nat.le_refl _) _
  have b4 : Below W3.heap.size W3 W := by rw [hW4]; exact (Below.refl _ _).alloc (Nat.le_refl _) _
  have b34 : Below W2.heap.size W2 W := b3.trans (b4.mono (by omega))
  have b24 : Below W1.heap.size W1 W := b2.trans (b34.mono (by omega))
  have b14 : Below w.heap.size w W := b1.trans (b24.mono (by omega))
  refine ⟨r1.of_block (b24.block _ r1.lt), r2.of_block (b34.block _ r2.lt), (r3.of_block (b4.block _ r3.lt)).congr fun i hi => rfl, r4, by rw [← hN]; exact b14, ?_⟩
  unfold NxOk s00
  simp only
  omega
end Go.Proofs.Ytjbjnndmpheedaa
