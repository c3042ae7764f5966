/-
  Arguments of type []int, read by the claim's reader.
-/
import Derived.Test.YtjbjnndmpheedaaLOpen
namespace Go.Proofs.Ytjbjnndmpheedaa
open Go.RowKit Go.ChangeShapes Go.WideShapes
set_option linter.unusedVariables false
section
variable {H : Type} {enc : TypeId × Value → H} {w : World} {base : Nat} {sp : Nat → Bool} {held : Bool}
theorem bytesZ : Try.prog.bytesOf 3 = 8 := by kernel_rfl
theorem zs_few {t e : TypeId} (ht : Try.prog.underlying t = some (.slice e)) {fuel : Nat} {cs : List Value} {x : DataW H × List MemPlace} (h : DataW.trod enc Try.prog w base sp held fuel t cs = some x) (hw : ∀ n ∈ x.1.weights Try.prog t, n ≤ reachBytes) : ∃ a len cap, cs = [.slice a len cap] ∧ len * Try.prog.bytesOf e ≤ reachBytes := by
  rcases DataW.trod_slice ht h with ⟨rfl, rfl⟩ | ⟨a, len, cap, elems, rest, n, _, rfl, rfl, hb, hl, hm, hlen, hel, hsp, hns⟩
  · exact ⟨none, 0, 0, rfl, by simp⟩
  · have hw0 : (elems.length + rest.length) * Try.prog.bytesOf e ≤ reachBytes := hw _ (by simp [DataW.weights, ht])
    exact ⟨some a, len, cap, rfl, Nat.le_trans (Nat.mul_le_mul_right _ (by omega)) hw0⟩
theorem open_zs {v : Value} {d : DataW H} {p : List MemPlace} (h : DataW.Trod enc Try.prog w base sp held 22 v d p) (hw : ∀ n ∈ d.weights Try.prog 22, n ≤ reachBytes) (hc : v.cells = #[v]) :
    ∃ l : List Int, SlOf w 1 RInt v l ∧ l.length * 8 ≤ 140737488351232 := by
  obtain ⟨fuel, hf⟩ := h
  obtain ⟨l, v', e, hs⟩ := reads_ints fuel _ _ hf hw
  obtain ⟨a, len, cap, e2, hfew⟩ := zs_few Try.underlying22 hf hw
  rw [hc] at e e2
  simp at e e2
  subst e
  obtain ⟨a', c', e3, _⟩ := hs.out
  rw [e3] at e2
  simp only [Value.slice.injEq] at e2
  refine ⟨l, hs, ?_⟩
  rw [bytesZ] at hfew
  have : reachBytes = 140737488351232 := by decide
  omega
end
end Go.Proofs.Ytjbjnndmpheedaa
