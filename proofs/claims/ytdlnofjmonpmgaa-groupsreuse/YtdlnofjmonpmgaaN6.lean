/-
  'line' of n values reads as the plain function lineF n.
-/
import Derived.Test.YtdlnofjmonpmgaaN1
namespace Go.Proofs.Ytdlnofjmonpmgaa
open Go.RowKit
set_option linter.unusedVariables false

theorem SlOf.mapR {α β : Type} {w : World} {k : Nat} {R : List Value → α → Prop} {R' : List Value → β → Prop} {v : Value} {l : List α} (h : SlOf w k R v l) (g : α → β) (hR : ∀ cs x, x ∈ l → R cs x → R' cs (g x)) : SlOf w k R' v (l.map g) := by
  obtain ⟨a, cap, hv, hl, h⟩ := h
  refine ⟨a, cap, by rw [List.length_map]; exact hv, by rw [List.length_map]; exact hl, ?_⟩
  rcases h with rfl | ⟨b, off, ha, h⟩
  · exact Or.inl rfl
  · refine Or.inr ⟨b, off, ha, fun i hi => ?_⟩
    have hi' : i < l.length := by simpa using hi
    obtain ⟨cs, h1, h2, h3⟩ := h i hi'
    exact ⟨cs, h1, by rw [List.getElem_map]; exact hR cs _ (List.getElem_mem hi') h2, h3⟩

theorem SlOf_blk {α : Type} {w : World} {b t k n c : Nat} {R : List Value → α → Prop} (f : α → List Value) (hk : ∀ x, (f x).length = k) (hR : ∀ x, R (f x) x) (l : List α) (hb : w.heap[b]? = some (.cells (l.flatMap f).toArray t)) (hn : l.length = n) (hl : n ≤ longest) : SlOf w k R (.slice (some ⟨b, 0, none⟩) n c) l := by
  subst hn
  refine ⟨_, c, rfl, hl, Or.inr ⟨b, 0, rfl, fun i hi => ⟨f l[i], hk _, hR _, fun j hj => ?_⟩⟩⟩
  rw [hk] at hj
  have h1 := flat_at f k hk l i j hi hj
  have hj' : j < (f l[i]).length := by rw [hk]; exact hj
  rw [List.getElem?_eq_getElem hj'] at h1
  simp only [World.cell?, hb]
  simpa using h1

theorem LineSt.sl {M n : Nat} {vv vi : Value} {ob : Nat → Nat} {w : World} (h : LineSt M n n vv vi ob w) (hn : n ≤ 100000) :
    SlOf w 1 RInt vv (lineF n).values ∧ SlOf w 3 (RIns w) vi ((List.range n).map lnI) ∧ SlOf w 3 (RBlk w) (.slice (some ⟨M + 1, 0, none⟩) 1 1) (lineF n).blocks := by
  have hv : SlOf w 1 RInt vv (lineF n).values := own_ints _ h.ov (by unfold longest; omega)
  have hi0 : SlOf w 3 (fun cs (k : Nat) => cs = lnX (ob k) k) vi (List.range n) := own_sl (k := 3) (fun k => lnX (ob k) k) (fun _ => rfl) (by decide) (fun _ => rfl) _ h.oi (by unfold longest; omega)
  have hi : SlOf w 3 (RIns w) vi ((List.range n).map lnI) := hi0.mapR lnI fun cs k hk e => by
    subst e
    have O := h.obs k (List.mem_range.1 hk)
    have hlen : (lnO k).length ≤ 2 := by unfold lnO; split <;> simp
    exact ⟨_, _, rfl, SlOf_blk cO (fun _ => rfl) (fun _ => rfl) (lnO k) O.blk rfl (by unfold longest; omega), SlOf_nil _ _ _ _ _⟩
  refine ⟨hv, hi, SlOf_one [.slice none 0 0, vi, .slice none 0 0] rfl ⟨_, _, _, rfl, SlOf_nil _ _ _ _ _, hi, SlOf_nil _ _ _ _ _⟩ (cells3 ?_ ?_ ?_)⟩
  · exact h.r1.cell (i := 0) (by omega)
  · exact h.r1.cell (i := 1) (by omega)
  · exact h.r1.cell (i := 2) (by omega)
end Go.Proofs.Ytdlnofjmonpmgaa
