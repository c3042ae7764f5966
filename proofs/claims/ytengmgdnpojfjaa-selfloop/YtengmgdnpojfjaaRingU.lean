/-
  What 'ring' has made, once a cell of its blocks or of its first edge has been written to.
-/
import Derived.Test.YtengmgdnpojfjaaRingT
import Derived.Test.YtengmgdnpojfjaaReg2
namespace Go.Proofs.Ytengmgdnpojfjaa
open Go.RowKit
set_option linter.unusedVariables false

theorem RingAt.updB {M n gv cv gi ci eb ab : Nat} {ob : Nat → Nat} {xs : List Int} {p0 i1 : Value} {e0b : Int} {e0a : Value} {W0 W : World} {W' : World} {p0' i1' : Value} (h : RingAt M n gv cv gi ci eb ab ob xs p0 i1 e0b e0a W0 W) (hz : W.heap.size ≤ W'.heap.size) (hk : ∀ b, M + 1 ≤ b → b < W.heap.size → b ≠ M + 1 + 1 + 1 + 1 + 1 + 1 + 1 + 1 + 1 + 1 + 1 + 1 + 1 + 1 + 1 + 1 + 1 + 1 → W'.heap[b]? = W.heap[b]?)
    (h1 : W'.rowIs (M + 1 + 1 + 1 + 1 + 1 + 1 + 1 + 1 + 1 + 1 + 1 + 1 + 1 + 1 + 1 + 1 + 1 + 1) 50 12 (fun q => (rgL M p0' i1' (.slice (some ⟨gi, 0, none⟩) n ci) (.slice (some ⟨eb, 0, none⟩) 1 1)).getD q undef)) :
    RingAt M n gv cv gi ci eb ab ob xs p0' i1' e0b e0a W0 W' := by
  have hb := h.big
  have lv := h.lv
  have li := h.li
  have le := h.le
  have la := h.la
  have d := h.d
  have c : ∀ b j, M + 1 ≤ b → b < W.heap.size → b ≠ M + 1 + 1 + 1 + 1 + 1 + 1 + 1 + 1 + 1 + 1 + 1 + 1 + 1 + 1 + 1 + 1 + 1 + 1 → W'.cell? ⟨b, j, none⟩ = W.cell? ⟨b, j, none⟩ := fun b j h0 h1 h2 => World.cell?_of_block (hk b h0 h1 h2)
  refine ⟨by omega, ⟨lv.1, by omega⟩, ⟨li.1, by omega⟩, ⟨le.1, by omega⟩, ⟨la.1, by omega⟩, d, fun k hk' => (c _ _ (by omega) (by omega) (by omega)).trans (h.v k hk'), fun k => (World.frozen?_of_block (hk gv (by omega) (by omega) (by omega))).trans (h.zv k), h1, h.rE0.of_block (hk _ (by omega) (by omega) (by omega)), fun b h2 h17 h7 => (hk b (by omega) (by omega) (by omega)).trans (h.st b h2 h17 h7), fun k hk' => ?_, fun k hk' => ?_, h.rE.of_block (hk _ (by omega) (by omega) (by omega)), h.rA.of_block (hk _ (by omega) (by omega) (by omega))⟩
  · obtain ⟨i0, i1, i2⟩ := h.i k hk'
    exact ⟨(c _ _ (by omega) (by omega) (by omega)).trans i0, (c _ _ (by omega) (by omega) (by omega)).trans i1, (c _ _ (by omega) (by omega) (by omega)).trans i2⟩
  · obtain ⟨o1, o2, o3, o4⟩ := h.obs k hk'
    exact ⟨o1, by omega, o3, (hk _ (by omega) o2 (by omega)).trans o4⟩

theorem RingAt.updE {M n gv cv gi ci eb ab : Nat} {ob : Nat → Nat} {xs : List Int} {p0 i1 : Value} {e0b : Int} {e0a : Value} {W0 W : World} {W' : World} {e0b' : Int} {e0a' : Value} (h : RingAt M n gv cv gi ci eb ab ob xs p0 i1 e0b e0a W0 W) (hz : W.heap.size ≤ W'.heap.size) (hk : ∀ b, M + 1 ≤ b → b < W.heap.size → b ≠ M + 1 + 1 + 1 + 1 + 1 + 1 + 1 → W'.heap[b]? = W.heap[b]?)
    (hE : W'.rowIs (M + 1 + 1 + 1 + 1 + 1 + 1 + 1) 47 2 (fun q => if q = 0 then .int .i64 e0b' else e0a')) :
    RingAt M n gv cv gi ci eb ab ob xs p0 i1 e0b' e0a' W0 W' := by
  have hb := h.big
  have lv := h.lv
  have li := h.li
  have le := h.le
  have la := h.la
  have d := h.d
  have c : ∀ b j, M + 1 ≤ b → b < W.heap.size → b ≠ M + 1 + 1 + 1 + 1 + 1 + 1 + 1 → W'.cell? ⟨b, j, none⟩ = W.cell? ⟨b, j, none⟩ := fun b j h0 h1 h2 => World.cell?_of_block (hk b h0 h1 h2)
  refine ⟨by omega, ⟨lv.1, by omega⟩, ⟨li.1, by omega⟩, ⟨le.1, by omega⟩, ⟨la.1, by omega⟩, d, fun k hk' => (c _ _ (by omega) (by omega) (by omega)).trans (h.v k hk'), fun k => (World.frozen?_of_block (hk gv (by omega) (by omega) (by omega))).trans (h.zv k), h.r1.of_block (hk _ (by omega) (by omega) (by omega)), hE, fun b h2 h17 h7 => (hk b (by omega) (by omega) (by omega)).trans (h.st b h2 h17 h7), fun k hk' => ?_, fun k hk' => ?_, h.rE.of_block (hk _ (by omega) (by omega) (by omega)), h.rA.of_block (hk _ (by omega) (by omega) (by omega))⟩
  · obtain ⟨i0, i1, i2⟩ := h.i k hk'
    exact ⟨(c _ _ (by omega) (by omega) (by omega)).trans i0, (c _ _ (by omega) (by omega) (by omega)).trans i1, (c _ _ (by omega) (by omega) (by omega)).trans i2⟩
  · obtain ⟨o1, o2, o3, o4⟩ := h.obs k hk'
    exact ⟨o1, by omega, o3, (hk _ (by omega) o2 (by omega)).trans o4⟩

theorem big_is (w W : World) (hb : Below W.heap.size W w) : Calls Try.prog 16 #[] w fun e w' => e = .returned (.agg #[.int .i64 10, .int .i64 10]) ∧ Below W.heap.size W w' := by
  refine (big_any w).mono ?_
  rintro e w' ⟨rfl, h⟩
  exact ⟨rfl, hb.trans (h.mono hb.size)⟩
end Go.Proofs.Ytengmgdnpojfjaa
