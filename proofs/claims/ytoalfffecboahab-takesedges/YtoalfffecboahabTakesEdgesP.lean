/-
  The walk of TakesEdges: the last instruction takes an edge that there is.
-/
import Derived.Test.YtoalfffecboahabRuT
import Derived.Deep.OwnRows
import Derived.Laws.MakeOwn
import Derived.OpenShut
namespace Go.Proofs.Ytoalfffecboahab
open Go.RowKit Go.ChangeShapes Go.WideShapes
set_option linter.unusedVariables false

section
variable {P : Program} {Q : Exit → Act → World → Prop} {md : Region.Mode} {S : World → Prop} {L : Nat} {ops : Array Oper} {fuel : Nat} {listed : Array Bool} {a : Act} {w : World}
theorem wpX_tri {o1 o2 o3 : Oper} (i1 i2 i3 : Nat) (h1 : (ops.toList.drop i1).head? = some o1) (h2 : (ops.toList.drop i2).head? = some o2) (h3 : (ops.toList.drop i3).head? = some o3) (hr : Region.ready md ops listed = [i1, i2, i3])
    (k1 : ∀ K' : Act → World → Prop, Shut (∀ a w, S w → (S w → wpAnyX P md ops Q S L fuel (listed.setIfInBounds i1 true) a w) → K' a w) → if Region.wanted o1 (yielded ops a.tmps) = true then Oper.wp P o1 a w K' Q else K' (a.put o1.dst undef) w)
    (k2 : ∀ K' : Act → World → Prop, Shut (∀ a w, S w → (S w → wpAnyX P md ops Q S L fuel (listed.setIfInBounds i2 true) a w) → K' a w) → if Region.wanted o2 (yielded ops a.tmps) = true then Oper.wp P o2 a w K' Q else K' (a.put o2.dst undef) w)
    (k3 : ∀ K' : Act → World → Prop, Shut (∀ a w, S w → (S w → wpAnyX P md ops Q S L fuel (listed.setIfInBounds i3 true) a w) → K' a w) → if Region.wanted o3 (yielded ops a.tmps) = true then Oper.wp P o3 a w K' Q else K' (a.put o3.dst undef) w) : wpAnyX P md ops Q S L (fuel + 1) listed a w :=
  ⟨fun h0 => (by rw [h0] at hr; cases hr), fun j hj => by
    rw [hr] at hj
    rcases List.mem_cons.1 hj with e | hj
    · subst e
      exact wpOp_step (opX h1) (fun K' hK => k1 K' (fun a w hS hW => hK a w ⟨fun _ => hS, hW hS⟩))
    · rcases List.mem_cons.1 hj with e | hj
      · subst e
        exact wpOp_step (opX h2) (fun K' hK => k2 K' (fun a w hS hW => hK a w ⟨fun _ => hS, hW hS⟩))
      · have e : j = i3 := by simpa using hj
        subst e
        exact wpOp_step (opX h3) (fun K' hK => k3 K' (fun a w hS hW => hK a w ⟨fun _ => hS, hW hS⟩))⟩
end
theorem op_bareT (n : Int) (w : World) :
    Calls Try.prog 5 #[.int .i64 n, .slice none 0 0] w fun e w' => e = .returned (.agg #[.int .i64 n, .slice none 0 0, .slice none 0 0]) ∧ Below w.heap.size w w' := by
  have hb : Below w.heap.size w (w.alloc (.cells #[.int .i64 n, .slice none 0 0, .slice none 0 0] 27)) := (Below.refl _ _).alloc (Nat.le_refl _) _
  go_enter Try.func5, Try.ntmps5
  go_wp2
  exact bodyPost_ret (v := .agg #[.int .i64 n, .slice none 0 0, .slice none 0 0]) (by simp [results, Try.results5, go_sem]) rfl ⟨rfl, hb⟩
def teX (n : Int) : Ins := ⟨n, [], []⟩
theorem te_new (w : World) (x y z : Int) (w' : World) (h : w' = w.alloc (.cells #[.int .i64 x, .slice none 0 0, .slice none 0 0, .int .i64 y, .slice none 0 0, .slice none 0 0, .int .i64 z, .slice none 0 0, .slice none 0 0] 27)) : SlOf w' 3 (RIns w') (.slice (some ⟨w.heap.size, 0, none⟩) 3 3) [teX x, teX y, teX z] := by
  refine ⟨_, 3, rfl, by simp [longest], Or.inr ⟨w.heap.size, 0, rfl, fun i hi => ?_⟩⟩
  have e : i = 0 ∨ i = 1 ∨ i = 2 := by simp at hi; omega
  rw [h]
  rcases e with rfl | rfl | rfl
  · exact ⟨[.int .i64 x, .slice none 0 0, .slice none 0 0], rfl, ⟨_, _, rfl, ⟨none, 0, rfl, by simp [teX, longest], Or.inl rfl⟩, ⟨none, 0, rfl, by simp [teX, longest], Or.inl rfl⟩⟩, fun j hj => by match j, hj with | 0, _ => simp | 1, _ => simp | 2, _ => simp⟩
  · exact ⟨[.int .i64 y, .slice none 0 0, .slice none 0 0], rfl, ⟨_, _, rfl, ⟨none, 0, rfl, by simp [teX, longest], Or.inl rfl⟩, ⟨none, 0, rfl, by simp [teX, longest], Or.inl rfl⟩⟩, fun j hj => by match j, hj with | 0, _ => simp | 1, _ => simp | 2, _ => simp⟩
  · exact ⟨[.int .i64 z, .slice none 0 0, .slice none 0 0], rfl, ⟨_, _, rfl, ⟨none, 0, rfl, by simp [teX, longest], Or.inl rfl⟩, ⟨none, 0, rfl, by simp [teX, longest], Or.inl rfl⟩⟩, fun j hj => by match j, hj with | 0, _ => simp | 1, _ => simp | 2, _ => simp⟩
/-- A block in a box of its own. -/
def TeB (W : World) (k : Nat) (x : Value) (wz : World) : Prop := ∃ P Bi Be, x = .pointer (some ⟨P, 0, none⟩) ∧ wz.rowIs P 32 3 (fun q => if q = 0 then .slice none 0 0 else if q = 1 then .slice (some ⟨Bi, 0, none⟩) 3 3 else .slice (some ⟨Be, 0, none⟩) k k) ∧ SlOf wz 3 (RIns wz) (.slice (some ⟨Bi, 0, none⟩) 3 3) [teX 1, teX 2, teX 3] ∧ Below W.heap.size W wz
theorem te_set {W v : World} {k P Bi Be : Nat} (rP : v.rowIs P 32 3 (fun _ => .slice none 0 0)) (fI : SlOf v 3 (RIns v) (.slice (some ⟨Bi, 0, none⟩) 3 3) [teX 1, teX 2, teX 3]) (hPB : P ≠ Bi) (hB : Below W.heap.size W v) (lP : W.heap.size ≤ P) :
    TeB W k (.pointer (some ⟨P, 0, none⟩)) (((v.setCell ⟨P, 0, none⟩ (.slice none 0 0)).setCell ⟨P, 1, none⟩ (.slice (some ⟨Bi, 0, none⟩) 3 3)).setCell ⟨P, 2, none⟩ (.slice (some ⟨Be, 0, none⟩) k k)) := by
  refine ⟨P, Bi, Be, rfl, (((rP.set 0 _).set 1 _).set 2 _).congr fun i hi => ?_, ?_, ((hB.setCell lP _).setCell lP _).setCell lP _⟩
  · match i, hi with | 0, _ => rfl | 1, _ => rfl | 2, _ => rfl
  · obtain ⟨a, c, hv, hl, h⟩ := fI
    refine ⟨a, c, hv, hl, h.imp id ?_⟩
    rintro ⟨b, off, ha, h⟩
    have hb : b = Bi := by rw [ha] at hv; simp at hv; exact hv.1.1.symm
    refine ⟨b, off, ha, fun i hi => ?_⟩
    obtain ⟨cs, h1, h2, h3⟩ := h i hi
    have hR : ∀ w' : World, RIns w' cs [teX 1, teX 2, teX 3][i] := fun w' => by
      obtain ⟨vo, vs, e1, e2, e3⟩ := h2
      have o0 : ([teX 1, teX 2, teX 3][i]).operands = [] := by
        have e : i = 0 ∨ i = 1 ∨ i = 2 := by simp at hi; omega
        rcases e with rfl | rfl | rfl <;> rfl
      have s0 : ([teX 1, teX 2, teX 3][i]).spoils = [] := by
        have e : i = 0 ∨ i = 1 ∨ i = 2 := by simp at hi; omega
        rcases e with rfl | rfl | rfl <;> rfl
      refine ⟨vo, vs, e1, ?_, ?_⟩
      · rw [o0] at e2 ⊢
        obtain ⟨a1, c1, e4, e5, _⟩ := e2
        exact ⟨a1, c1, e4, e5, Or.inl rfl⟩
      · rw [s0] at e3 ⊢
        obtain ⟨a1, c1, e4, e5, _⟩ := e3
        exact ⟨a1, c1, e4, e5, Or.inl rfl⟩
    refine ⟨cs, h1, hR _, fun j hj => ?_⟩
    have hne : b ≠ P := by rw [hb]; exact Ne.symm hPB
    rw [World.cell?_of_block (w := (v.setCell ⟨P, 0, none⟩ (.slice none 0 0)).setCell ⟨P, 1, none⟩ (.slice (some ⟨Bi, 0, none⟩) 3 3)) (a := ⟨b, off + i * 3 + j, none⟩) (Below.heap_setCell _ _ _ _ hne), World.cell?_of_block (w := v.setCell ⟨P, 0, none⟩ (.slice none 0 0)) (a := ⟨b, off + i * 3 + j, none⟩) (Below.heap_setCell _ _ _ _ hne), World.cell?_of_block (w := v) (a := ⟨b, off + i * 3 + j, none⟩) (Below.heap_setCell _ _ _ _ hne)]
    exact h3 j hj
theorem infoEdT : (Try.prog.info? 58).map (fun i => (i.zero, i.size, i.bytes)) = some (some (.agg #[.int .i64 0, .slice none 0 0]), 2, 32) := by kernel_rfl
theorem make_edT (n : Nat) (hn : n ≤ 1000) : ∃ cs, ∀ w : World, (Instr.makeSlice 30 (.int .i64 (n : Int)) (.int .i64 (n : Int))).run Try.prog w = .ok (.slice (some ⟨w.heap.size, 0, none⟩) n n) (w.alloc (.cells cs 58)) := by
  obtain ⟨i3, hi3, hz3, hz31, hz32⟩ := ru_parts infoEdT
  refine ⟨madeCells (Value.agg #[.int .i64 0, .slice none 0 0]).cells (n * i3.size), fun w => ?_⟩
  have h := run_make (P := Try.prog) w 30 58 i3 (.agg #[.int .i64 0, .slice none 0 0]) Try.underlying30 hi3 hz3 .i64 .i64 (n : Int) (n : Int) (by omega) (by omega) (by rw [hz32]; omega) (by omega)
  rw [Int.toNat_natCast] at h
  exact h
theorem wpX_two {P : Program} {Q : Exit → Act → World → Prop} {md : Region.Mode} {S : World → Prop} {L : Nat} {ops : Array Oper} {fuel : Nat} {listed : Array Bool} {a : Act} {w : World} {o1 o2 : Oper} (i1 i2 : Nat) (h1 : (ops.toList.drop i1).head? = some o1) (h2 : (ops.toList.drop i2).head? = some o2) (hr : Region.ready md ops listed = [i1, i2])
    (k1 : ∀ K' : Act → World → Prop, Shut (∀ a w, S w → (S w → wpAnyX P md ops Q S L fuel (listed.setIfInBounds i1 true) a w) → K' a w) → if Region.wanted o1 (yielded ops a.tmps) = true then Oper.wp P o1 a w K' Q else K' (a.put o1.dst undef) w)
    (k2 : ∀ K' : Act → World → Prop, Shut (∀ a w, S w → (S w → wpAnyX P md ops Q S L fuel (listed.setIfInBounds i2 true) a w) → K' a w) → if Region.wanted o2 (yielded ops a.tmps) = true then Oper.wp P o2 a w K' Q else K' (a.put o2.dst undef) w) : wpAnyX P md ops Q S L (fuel + 1) listed a w :=
  wpAnyX_both (opX h1) (opX h2) hr k1 k2
theorem te_one (w : World) (w' : World) (h : w' = w.alloc (.cells #[.int .i64 0, .slice none 0 0, .slice none 0 0] 27)) : SlOf w' 3 (RIns w') (.slice (some ⟨w.heap.size, 0, none⟩) 1 1) [teX 0] := by
  refine ⟨_, 1, rfl, by simp [longest], Or.inr ⟨w.heap.size, 0, rfl, fun i hi => ?_⟩⟩
  have e : i = 0 := by simp at hi; omega
  rw [h]
  subst e
  exact ⟨[.int .i64 0, .slice none 0 0, .slice none 0 0], rfl, ⟨_, _, rfl, ⟨none, 0, rfl, by simp [teX, longest], Or.inl rfl⟩, ⟨none, 0, rfl, by simp [teX, longest], Or.inl rfl⟩⟩, fun j hj => by match j, hj with | 0, _ => simp | 1, _ => simp | 2, _ => simp⟩
theorem te_none (seed : Int) (k : Nat) (i : Int) (l : List Int) (h : i ≠ 2 ∨ k = 0) : takesM seed [teX 1, teX 2, teX 3] k i l = -1 := by
  unfold takesM
  rw [if_pos]
  rcases h with h | h
  · right; left; simpa using h
  · exact Or.inr (Or.inr h)
theorem te_some (seed : Int) (k : Nat) (l : List Int) (h : k ≠ 0) : 0 ≤ takesM seed [teX 1, teX 2, teX 3] k 2 l ∧ takesM seed [teX 1, teX 2, teX 3] k 2 l < (k : Int) := by
  unfold takesM
  rw [if_neg (by simp; omega)]
  exact ⟨Int.emod_nonneg _ (by omega), Int.emod_lt_of_pos _ (by omega)⟩
theorem te_first (seed : Int) (x : Ins) (l : List Int) : takesM seed [x] 1 0 l = 0 := by unfold takesM; rw [if_neg (by simp)]; omega
end Go.Proofs.Ytoalfffecboahab
