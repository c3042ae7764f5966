/-
  An argument of type api.Func, read by the claim's reader, is a function of plain data (Rep): slices by their cells.
-/
import Derived.Test.YtjbjnndmpheedaaA1
import Derived.OpenShut
import Derived.SizedLaws
namespace Go.Proofs.Ytjbjnndmpheedaa
open Go.RowKit Go.ChangeShapes Go.WideShapes
set_option linter.unusedVariables false

theorem list_by {α : Type} (Q : Nat → α → Prop) : ∀ n, (∀ i, i < n → ∃ a, Q i a) → ∃ l : List α, l.length = n ∧ ∀ i (h : i < l.length), Q i l[i]
  | 0, _ => ⟨[], rfl, fun i h => by simp at h⟩
  | n + 1, h => by
    obtain ⟨l, hl, hq⟩ := list_by Q n fun i hi => h i (by omega)
    obtain ⟨a, ha⟩ := h n (by omega)
    refine ⟨l ++ [a], by simp [hl], fun i hi => ?_⟩
    by_cases h' : i < l.length
    · rw [List.getElem_append_left h']; exact hq i h'
    · have : i = l.length := by simp at hi; omega
      subst this
      simpa [hl] using ha

theorem weights_all {H : Type} {P : Program} {e : TypeId} {n : Nat} : ∀ {ds : List (DataW H)} {d : DataW H}, d ∈ ds → n ∈ d.weights P e → n ∈ DataW.weightsAll P e ds
  | d0 :: r, d, hd, hn => by
    simp only [DataW.weightsAll, List.mem_append]
    rcases List.mem_cons.1 hd with rfl | h
    · exact Or.inl hn
    · exact Or.inr (weights_all h hn)

section
variable {H : Type} {enc : TypeId × Value → H} {w : World} {base : Nat} {sp : Nat → Bool} {held : Bool}

/-- What the reader reads of a type is so and so, if nothing in it is too long. -/
def Reads (enc : TypeId × Value → H) (w : World) (base : Nat) (sp : Nat → Bool) (held : Bool) {α : Type} (t : TypeId) (R : List Value → α → Prop) : Prop :=
  ∀ (fuel : Nat) (cs : List Value) (x : DataW H × List MemPlace), DataW.trod enc Try.prog w base sp held fuel t cs = some x → (∀ n ∈ x.1.weights Try.prog t, n ≤ reachBytes) → ∃ a, R cs a

theorem reads_slice {α : Type} {t e : TypeId} {k : Nat} {R : List Value → α → Prop} (ht : Try.prog.underlying t = some (.slice e)) (hk : Try.prog.cellsOf e = k) (hk0 : 0 < k) (hby : 0 < Try.prog.bytesOf e) (hR : Reads enc w base sp held e R) :
    Reads enc w base sp held t (fun cs l => ∃ v, cs = [v] ∧ SlOf w k R v l) := by
  intro fuel cs x h hw
  rcases DataW.trod_slice ht h with ⟨rfl, rfl⟩ | ⟨a, len, cap, elems, rest, n, _, rfl, rfl, hb, hl, hm, hlen, hel, hsp, hns⟩
  · exact ⟨[], _, rfl, none, 0, rfl, by simp [longest], Or.inl rfl⟩
  have hw0 : (elems.length + rest.length) * Try.prog.bytesOf e ≤ reachBytes := hw _ (by simp [DataW.weights, ht])
  have hlong : len ≤ longest := by
    have h1 := reachBytes_lt
    have h2 : len * 1 ≤ (elems.length + rest.length) * Try.prog.bytesOf e := Nat.mul_le_mul (by omega) hby
    unfold longest
    omega
  have each : ∀ i, i < len → ∃ x : α, ∃ cs : List Value, cs.length = k ∧ R cs x ∧ ∀ j (hj : j < cs.length), w.cell? ((a.add (i * k)).add j) = some cs[j] := by
    intro i hi
    have hE := hel i hi
    have hi' : i < elems.length := by omega
    rw [List.getElem?_eq_getElem hi', Option.bind_eq_some_iff] at hE
    obtain ⟨cs', hc, hy⟩ := hE
    obtain ⟨_, hcl, hcc⟩ := World.cells?_some hc
    obtain ⟨x, hx⟩ := hR n cs' _ hy fun m hm => hw m (by
      simp only [DataW.weights, ht]
      exact List.mem_cons_of_mem _ (List.mem_append_left _ (weights_all (List.mem_map_of_mem (List.getElem_mem hi')) hm)))
    rw [hk] at hcl hcc
    refine ⟨x, cs', hcl, hx, fun j hj => ?_⟩
    rw [hcc j (by omega), List.getElem?_eq_getElem hj]
  obtain ⟨l, hll, hq⟩ := list_by _ len each
  refine ⟨l, _, rfl, some a, cap, by rw [hll], by omega, ?_⟩
  by_cases hl0 : l = []
  · exact Or.inl hl0
  right
  have hpos : 0 < l.length := List.length_pos_iff.2 hl0
  obtain ⟨b, off, spot⟩ := a
  have hs : spot = none := by
    obtain ⟨cs, hcl, _, hc⟩ := hq 0 hpos
    have := hc 0 (by omega)
    simp only [Nat.zero_mul, Addr.add, if_true] at this
    cases spot with
    | none => rfl
    | some s =>
      simp only [World.cell?] at this
      split at this <;> simp at this
  subst hs
  refine ⟨b, off, rfl, fun i hi => ?_⟩
  obtain ⟨cs, hcl, hr, hc⟩ := hq i hi
  refine ⟨cs, hcl, hr, fun j hj => ?_⟩
  have := hc j hj
  simp only [Addr.add] at this
  split at this <;> split at this <;> simp_all

theorem trod_boolO {t : TypeId} {fuel : Nat} {cs : List Value} {x : DataW H × List MemPlace} (ht : Try.prog.underlying t = some .bool) (h : DataW.trod enc Try.prog w base sp held fuel t cs = some x) : ∃ b, cs = [.bool b] := by
  cases fuel with
  | zero => simp [DataW.trod] at h
  | succ n =>
    unfold DataW.trod at h
    rw [ht] at h
    split at h <;> simp_all
theorem reads_int : Reads enc w base sp held 3 RInt := fun fuel cs x h _ => by
  obtain ⟨n, rfl, _, _⟩ := DataW.trod_int Try.underlying3 h
  exact ⟨n, rfl⟩
theorem reads_ints : Reads enc w base sp held 22 (fun cs (l : List Int) => ∃ v, cs = [v] ∧ SlOf w 1 RInt v l) :=
  reads_slice (k := 1) Try.underlying22 (by kernel_rfl) (by omega) (of_decide_eq_true (by kernel_rfl)) reads_int

set_option maxRecDepth 100000 in
theorem reads_opr : Reads enc w base sp held 78 ROpr := by
  intro fuel cs x h hw
  have u := Try.underlying78
  obtain ⟨xs, n, _, rfl, hl, hxs, hf⟩ := DataW.trod_struct u h
  have hc : Try.prog.cellsOf 78 = 5 := by kernel_rfl
  rw [hc] at hl
  have k997 : Try.prog.cellsOf 4 = 1 := by kernel_rfl
  have k172 : Try.prog.cellsOf 3 = 1 := by kernel_rfl
  match cs, hl with
  | [c0, c1, c2, c3, c4], _ =>
  match xs, hxs with
  | [y0, y1, y2, y3, y4], _ =>
    have h0' : DataW.trod enc Try.prog w base sp held n 3 (([c0, c1, c2, c3, c4].drop 0).take (Try.prog.cellsOf 3)) = some y0 := hf 0 _ rfl
    rw [k172] at h0'
    have h0 : DataW.trod enc Try.prog w base sp held n 3 [c0] = some y0 := h0'
    have h1' : DataW.trod enc Try.prog w base sp held n 3 (([c0, c1, c2, c3, c4].drop 1).take (Try.prog.cellsOf 3)) = some y1 := hf 1 _ rfl
    rw [k172] at h1'
    have h1 : DataW.trod enc Try.prog w base sp held n 3 [c1] = some y1 := h1'
    have h2' : DataW.trod enc Try.prog w base sp held n 4 (([c0, c1, c2, c3, c4].drop 2).take (Try.prog.cellsOf 4)) = some y2 := hf 2 _ rfl
    rw [k997] at h2'
    have h2 : DataW.trod enc Try.prog w base sp held n 4 [c2] = some y2 := h2'
    have h3' : DataW.trod enc Try.prog w base sp held n 3 (([c0, c1, c2, c3, c4].drop 3).take (Try.prog.cellsOf 3)) = some y3 := hf 3 _ rfl
    rw [k172] at h3'
    have h3 : DataW.trod enc Try.prog w base sp held n 3 [c3] = some y3 := h3'
    have h4' : DataW.trod enc Try.prog w base sp held n 3 (([c0, c1, c2, c3, c4].drop 4).take (Try.prog.cellsOf 3)) = some y4 := hf 4 _ rfl
    rw [k172] at h4'
    have h4 : DataW.trod enc Try.prog w base sp held n 3 [c4] = some y4 := h4'
    obtain ⟨a0, e0, _, _⟩ := DataW.trod_int Try.underlying3 h0
    obtain rfl := List.cons.inj e0 |>.1
    obtain ⟨a1, e1, _, _⟩ := DataW.trod_int Try.underlying3 h1
    obtain rfl := List.cons.inj e1 |>.1
    obtain ⟨a2, e2⟩ := trod_boolO Try.underlying4 h2
    obtain rfl := List.cons.inj e2 |>.1
    obtain ⟨a3, e3, _, _⟩ := DataW.trod_int Try.underlying3 h3
    obtain rfl := List.cons.inj e3 |>.1
    obtain ⟨a4, e4, _, _⟩ := DataW.trod_int Try.underlying3 h4
    obtain rfl := List.cons.inj e4 |>.1
    exact ⟨⟨a0, a1, a2, a3, a4⟩, rfl⟩

set_option maxRecDepth 100000 in
theorem reads_rg : Reads enc w base sp held 62 RRg := by
  intro fuel cs x h hw
  have u := Try.underlying62
  obtain ⟨xs, n, _, rfl, hl, hxs, hf⟩ := DataW.trod_struct u h
  have hc : Try.prog.cellsOf 62 = 2 := by kernel_rfl
  rw [hc] at hl
  have k172 : Try.prog.cellsOf 3 = 1 := by kernel_rfl
  match cs, hl with
  | [c0, c1], _ =>
  match xs, hxs with
  | [y0, y1], _ =>
    have h0' : DataW.trod enc Try.prog w base sp held n 3 (([c0, c1].drop 0).take (Try.prog.cellsOf 3)) = some y0 := hf 0 _ rfl
    rw [k172] at h0'
    have h0 : DataW.trod enc Try.prog w base sp held n 3 [c0] = some y0 := h0'
    have h1' : DataW.trod enc Try.prog w base sp held n 3 (([c0, c1].drop 1).take (Try.prog.cellsOf 3)) = some y1 := hf 1 _ rfl
    rw [k172] at h1'
    have h1 : DataW.trod enc Try.prog w base sp held n 3 [c1] = some y1 := h1'
    obtain ⟨a0, e0, _, _⟩ := DataW.trod_int Try.underlying3 h0
    obtain rfl := List.cons.inj e0 |>.1
    obtain ⟨a1, e1, _, _⟩ := DataW.trod_int Try.underlying3 h1
    obtain rfl := List.cons.inj e1 |>.1
    exact ⟨⟨a0, a1⟩, rfl⟩

theorem reads_oprs : Reads enc w base sp held 42 (fun cs (l : List Opr) => ∃ v, cs = [v] ∧ SlOf w 5 ROpr v l) :=
  reads_slice (k := 5) Try.underlying42 (by kernel_rfl) (by omega) (of_decide_eq_true (by kernel_rfl)) reads_opr

theorem reads_rgs : Reads enc w base sp held 43 (fun cs (l : List Rg) => ∃ v, cs = [v] ∧ SlOf w 2 RRg v l) :=
  reads_slice (k := 2) Try.underlying43 (by kernel_rfl) (by omega) (of_decide_eq_true (by kernel_rfl)) reads_rg

set_option maxRecDepth 100000 in
theorem reads_ins : Reads enc w base sp held 45 (RIns w) := by
  intro fuel cs x h hw
  have u := Try.underlying45
  obtain ⟨xs, n, _, rfl, hl, hxs, hf⟩ := DataW.trod_struct u h
  have hc : Try.prog.cellsOf 45 = 3 := by kernel_rfl
  rw [hc] at hl
  have k877 : Try.prog.cellsOf 42 = 1 := by kernel_rfl
  have k678 : Try.prog.cellsOf 43 = 1 := by kernel_rfl
  have k172 : Try.prog.cellsOf 3 = 1 := by kernel_rfl
  match cs, hl with
  | [c0, c1, c2], _ =>
  match xs, hxs with
  | [y0, y1, y2], _ =>
    have h0' : DataW.trod enc Try.prog w base sp held n 3 (([c0, c1, c2].drop 0).take (Try.prog.cellsOf 3)) = some y0 := hf 0 _ rfl
    rw [k172] at h0'
    have h0 : DataW.trod enc Try.prog w base sp held n 3 [c0] = some y0 := h0'
    have h1' : DataW.trod enc Try.prog w base sp held n 42 (([c0, c1, c2].drop 1).take (Try.prog.cellsOf 42)) = some y1 := hf 1 _ rfl
    rw [k877] at h1'
    have h1 : DataW.trod enc Try.prog w base sp held n 42 [c1] = some y1 := h1'
    have h2' : DataW.trod enc Try.prog w base sp held n 43 (([c0, c1, c2].drop 2).take (Try.prog.cellsOf 43)) = some y2 := hf 2 _ rfl
    rw [k678] at h2'
    have h2 : DataW.trod enc Try.prog w base sp held n 43 [c2] = some y2 := h2'
    obtain ⟨a0, e0, _, _⟩ := DataW.trod_int Try.underlying3 h0
    obtain rfl := List.cons.inj e0 |>.1
    obtain ⟨l1, v1, e1, s1⟩ := reads_oprs _ _ _ h1 fun m hm => hw m (by simp only [DataW.weights, u]; exact DataW.weights_mem_each (j := 1) rfl rfl m hm)
    obtain rfl := List.cons.inj e1 |>.1
    obtain ⟨l2, v2, e2, s2⟩ := reads_rgs _ _ _ h2 fun m hm => hw m (by simp only [DataW.weights, u]; exact DataW.weights_mem_each (j := 2) rfl rfl m hm)
    obtain rfl := List.cons.inj e2 |>.1
    exact ⟨⟨a0, l1, l2⟩, _, _, rfl, s1, s2⟩

set_option maxRecDepth 100000 in
theorem reads_edg : Reads enc w base sp held 106 (REdg w) := by
  intro fuel cs x h hw
  have u := Try.underlying106
  obtain ⟨xs, n, _, rfl, hl, hxs, hf⟩ := DataW.trod_struct u h
  have hc : Try.prog.cellsOf 106 = 2 := by kernel_rfl
  rw [hc] at hl
  have k550 : Try.prog.cellsOf 22 = 1 := by kernel_rfl
  have k172 : Try.prog.cellsOf 3 = 1 := by kernel_rfl
  match cs, hl with
  | [c0, c1], _ =>
  match xs, hxs with
  | [y0, y1], _ =>
    have h0' : DataW.trod enc Try.prog w base sp held n 3 (([c0, c1].drop 0).take (Try.prog.cellsOf 3)) = some y0 := hf 0 _ rfl
    rw [k172] at h0'
    have h0 : DataW.trod enc Try.prog w base sp held n 3 [c0] = some y0 := h0'
    have h1' : DataW.trod enc Try.prog w base sp held n 22 (([c0, c1].drop 1).take (Try.prog.cellsOf 22)) = some y1 := hf 1 _ rfl
    rw [k550] at h1'
    have h1 : DataW.trod enc Try.prog w base sp held n 22 [c1] = some y1 := h1'
    obtain ⟨a0, e0, _, _⟩ := DataW.trod_int Try.underlying3 h0
    obtain rfl := List.cons.inj e0 |>.1
    obtain ⟨l1, v1, e1, s1⟩ := reads_ints _ _ _ h1 fun m hm => hw m (by simp only [DataW.weights, u]; exact DataW.weights_mem_each (j := 1) rfl rfl m hm)
    obtain rfl := List.cons.inj e1 |>.1
    exact ⟨⟨a0, l1⟩, _, rfl, s1⟩

theorem reads_inss : Reads enc w base sp held 72 (fun cs (l : List Ins) => ∃ v, cs = [v] ∧ SlOf w 3 (RIns w) v l) :=
  reads_slice (k := 3) Try.underlying72 (by kernel_rfl) (by omega) (of_decide_eq_true (by kernel_rfl)) reads_ins

theorem reads_edgs : Reads enc w base sp held 73 (fun cs (l : List Edg) => ∃ v, cs = [v] ∧ SlOf w 2 (REdg w) v l) :=
  reads_slice (k := 2) Try.underlying73 (by kernel_rfl) (by omega) (of_decide_eq_true (by kernel_rfl)) reads_edg

set_option maxRecDepth 100000 in
theorem reads_blk : Reads enc w base sp held 75 (RBlk w) := by
  intro fuel cs x h hw
  have u := Try.underlying75
  obtain ⟨xs, n, _, rfl, hl, hxs, hf⟩ := DataW.trod_struct u h
  have hc : Try.prog.cellsOf 75 = 3 := by kernel_rfl
  rw [hc] at hl
  have k338 : Try.prog.cellsOf 73 = 1 := by kernel_rfl
  have k449 : Try.prog.cellsOf 72 = 1 := by kernel_rfl
  have k550 : Try.prog.cellsOf 22 = 1 := by kernel_rfl
  match cs, hl with
  | [c0, c1, c2], _ =>
  match xs, hxs with
  | [y0, y1, y2], _ =>
    have h0' : DataW.trod enc Try.prog w base sp held n 22 (([c0, c1, c2].drop 0).take (Try.prog.cellsOf 22)) = some y0 := hf 0 _ rfl
    rw [k550] at h0'
    have h0 : DataW.trod enc Try.prog w base sp held n 22 [c0] = some y0 := h0'
    have h1' : DataW.trod enc Try.prog w base sp held n 72 (([c0, c1, c2].drop 1).take (Try.prog.cellsOf 72)) = some y1 := hf 1 _ rfl
    rw [k449] at h1'
    have h1 : DataW.trod enc Try.prog w base sp held n 72 [c1] = some y1 := h1'
    have h2' : DataW.trod enc Try.prog w base sp held n 73 (([c0, c1, c2].drop 2).take (Try.prog.cellsOf 73)) = some y2 := hf 2 _ rfl
    rw [k338] at h2'
    have h2 : DataW.trod enc Try.prog w base sp held n 73 [c2] = some y2 := h2'
    obtain ⟨l0, v0, e0, s0⟩ := reads_ints _ _ _ h0 fun m hm => hw m (by simp only [DataW.weights, u]; exact DataW.weights_mem_each (j := 0) rfl rfl m hm)
    obtain rfl := List.cons.inj e0 |>.1
    obtain ⟨l1, v1, e1, s1⟩ := reads_inss _ _ _ h1 fun m hm => hw m (by simp only [DataW.weights, u]; exact DataW.weights_mem_each (j := 1) rfl rfl m hm)
    obtain rfl := List.cons.inj e1 |>.1
    obtain ⟨l2, v2, e2, s2⟩ := reads_edgs _ _ _ h2 fun m hm => hw m (by simp only [DataW.weights, u]; exact DataW.weights_mem_each (j := 2) rfl rfl m hm)
    obtain rfl := List.cons.inj e2 |>.1
    exact ⟨⟨l0, l1, l2⟩, _, _, _, rfl, s0, s1, s2⟩

theorem reads_blks : Reads enc w base sp held 23 (fun cs (l : List Blk) => ∃ v, cs = [v] ∧ SlOf w 3 (RBlk w) v l) :=
  reads_slice (k := 3) Try.underlying23 (by kernel_rfl) (by omega) (of_decide_eq_true (by kernel_rfl)) reads_blk

set_option maxRecDepth 100000 in
theorem reads_fn : Reads enc w base sp held 25 (RFn w) := by
  intro fuel cs x h hw
  have u := Try.underlying25
  obtain ⟨xs, n, _, rfl, hl, hxs, hf⟩ := DataW.trod_struct u h
  have hc : Try.prog.cellsOf 25 = 2 := by kernel_rfl
  rw [hc] at hl
  have k659 : Try.prog.cellsOf 23 = 1 := by kernel_rfl
  have k550 : Try.prog.cellsOf 22 = 1 := by kernel_rfl
  match cs, hl with
  | [c0, c1], _ =>
  match xs, hxs with
  | [y0, y1], _ =>
    have h0' : DataW.trod enc Try.prog w base sp held n 22 (([c0, c1].drop 0).take (Try.prog.cellsOf 22)) = some y0 := hf 0 _ rfl
    rw [k550] at h0'
    have h0 : DataW.trod enc Try.prog w base sp held n 22 [c0] = some y0 := h0'
    have h1' : DataW.trod enc Try.prog w base sp held n 23 (([c0, c1].drop 1).take (Try.prog.cellsOf 23)) = some y1 := hf 1 _ rfl
    rw [k659] at h1'
    have h1 : DataW.trod enc Try.prog w base sp held n 23 [c1] = some y1 := h1'
    obtain ⟨l0, v0, e0, s0⟩ := reads_ints _ _ _ h0 fun m hm => hw m (by simp only [DataW.weights, u]; exact DataW.weights_mem_each (j := 0) rfl rfl m hm)
    obtain rfl := List.cons.inj e0 |>.1
    obtain ⟨l1, v1, e1, s1⟩ := reads_blks _ _ _ h1 fun m hm => hw m (by simp only [DataW.weights, u]; exact DataW.weights_mem_each (j := 1) rfl rfl m hm)
    obtain rfl := List.cons.inj e1 |>.1
    exact ⟨⟨l0, l1⟩, _, _, rfl, s0, s1⟩

end
end Go.Proofs.Ytjbjnndmpheedaa
