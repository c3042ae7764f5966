/-
  An argument of type api.Output, read by the claim's reader, is plain data (places, edits): slices by their cells.
-/
import Derived.Test.YtjbjnndmpheedaaLOpen
import Derived.Test.YtjbjnndmpheedaaM0
namespace Go.Proofs.Ytjbjnndmpheedaa
open Go.RowKit Go.ChangeShapes Go.WideShapes
set_option linter.unusedVariables false

section
variable {H : Type} {enc : TypeId × Value → H} {w : World} {base : Nat} {sp : Nat → Bool} {held : Bool}

set_option maxRecDepth 100000 in
theorem reads_pl : Reads enc w base sp held 37 RPl := by
  intro fuel cs x h hw
  have u := Try.underlying37
  obtain ⟨xs, n, _, rfl, hl, hxs, hf⟩ := DataW.trod_struct u h
  have hc : Try.prog.cellsOf 37 = 3 := by kernel_rfl
  rw [hc] at hl
  have kk0 : Try.prog.cellsOf 3 = 1 := by kernel_rfl
  match cs, hl with
  | [c0, c1, c2], _ =>
  match xs, hxs with
  | [y0, y1, y2], _ =>
    have h0' : DataW.trod enc Try.prog w base sp held n 3 (([c0, c1, c2].drop 0).take (Try.prog.cellsOf 3)) = some y0 := hf 0 _ rfl
    rw [kk0] at h0'
    have h0 : DataW.trod enc Try.prog w base sp held n 3 [c0] = some y0 := h0'
    have h1' : DataW.trod enc Try.prog w base sp held n 3 (([c0, c1, c2].drop 1).take (Try.prog.cellsOf 3)) = some y1 := hf 1 _ rfl
    rw [kk0] at h1'
    have h1 : DataW.trod enc Try.prog w base sp held n 3 [c1] = some y1 := h1'
    have h2' : DataW.trod enc Try.prog w base sp held n 3 (([c0, c1, c2].drop 2).take (Try.prog.cellsOf 3)) = some y2 := hf 2 _ rfl
    rw [kk0] at h2'
    have h2 : DataW.trod enc Try.prog w base sp held n 3 [c2] = some y2 := h2'
    obtain ⟨a0, e0, _, _⟩ := DataW.trod_int Try.underlying3 h0
    obtain rfl := List.cons.inj e0 |>.1
    obtain ⟨a1, e1, _, _⟩ := DataW.trod_int Try.underlying3 h1
    obtain rfl := List.cons.inj e1 |>.1
    obtain ⟨a2, e2, _, _⟩ := DataW.trod_int Try.underlying3 h2
    obtain rfl := List.cons.inj e2 |>.1
    exact ⟨⟨a0, a1, a2⟩, rfl⟩

set_option maxRecDepth 100000 in
theorem reads_mv : Reads enc w base sp held 48 RMv := by
  intro fuel cs x h hw
  have u := Try.underlying48
  obtain ⟨xs, n, _, rfl, hl, hxs, hf⟩ := DataW.trod_struct u h
  have hc : Try.prog.cellsOf 48 = 6 := by kernel_rfl
  rw [hc] at hl
  have kk0 : Try.prog.cellsOf 37 = 3 := by kernel_rfl
  match cs, hl with
  | [c0, c1, c2, c3, c4, c5], _ =>
  match xs, hxs with
  | [y0, y1], _ =>
    have h0' : DataW.trod enc Try.prog w base sp held n 37 (([c0, c1, c2, c3, c4, c5].drop 0).take (Try.prog.cellsOf 37)) = some y0 := hf 0 _ rfl
    rw [kk0] at h0'
    have h0 : DataW.trod enc Try.prog w base sp held n 37 [c0, c1, c2] = some y0 := h0'
    have h1' : DataW.trod enc Try.prog w base sp held n 37 (([c0, c1, c2, c3, c4, c5].drop 3).take (Try.prog.cellsOf 37)) = some y1 := hf 1 _ rfl
    rw [kk0] at h1'
    have h1 : DataW.trod enc Try.prog w base sp held n 37 [c3, c4, c5] = some y1 := h1'
    obtain ⟨p0, e0⟩ := reads_pl _ _ _ h0 fun m hm => hw m (by simp only [DataW.weights, u]; exact DataW.weights_mem_each (j := 0) rfl rfl m hm)
    unfold RPl at e0
    simp only [List.cons.injEq, and_true] at e0
    obtain ⟨rfl, rfl, rfl⟩ := e0
    obtain ⟨p1, e1⟩ := reads_pl _ _ _ h1 fun m hm => hw m (by simp only [DataW.weights, u]; exact DataW.weights_mem_each (j := 1) rfl rfl m hm)
    unfold RPl at e1
    simp only [List.cons.injEq, and_true] at e1
    obtain ⟨rfl, rfl, rfl⟩ := e1
    exact ⟨⟨p0, p1⟩, rfl⟩

theorem reads_mvs : Reads enc w base sp held 49 (fun cs (l : List Mv) => ∃ v, cs = [v] ∧ SlOf w 6 RMv v l) :=
  reads_slice (k := 6) Try.underlying49 (by kernel_rfl) (by omega) (of_decide_eq_true (by kernel_rfl)) reads_mv

set_option maxRecDepth 100000 in
theorem reads_ed : Reads enc w base sp held 51 (REd w) := by
  intro fuel cs x h hw
  have u := Try.underlying51
  obtain ⟨xs, n, _, rfl, hl, hxs, hf⟩ := DataW.trod_struct u h
  have hc : Try.prog.cellsOf 51 = 3 := by kernel_rfl
  rw [hc] at hl
  have kk0 : Try.prog.cellsOf 49 = 1 := by kernel_rfl
  have kk1 : Try.prog.cellsOf 3 = 1 := by kernel_rfl
  match cs, hl with
  | [c0, c1, c2], _ =>
  match xs, hxs with
  | [y0, y1, y2], _ =>
    have h0' : DataW.trod enc Try.prog w base sp held n 3 (([c0, c1, c2].drop 0).take (Try.prog.cellsOf 3)) = some y0 := hf 0 _ rfl
    rw [kk1] at h0'
    have h0 : DataW.trod enc Try.prog w base sp held n 3 [c0] = some y0 := h0'
    have h1' : DataW.trod enc Try.prog w base sp held n 3 (([c0, c1, c2].drop 1).take (Try.prog.cellsOf 3)) = some y1 := hf 1 _ rfl
    rw [kk1] at h1'
    have h1 : DataW.trod enc Try.prog w base sp held n 3 [c1] = some y1 := h1'
    have h2' : DataW.trod enc Try.prog w base sp held n 49 (([c0, c1, c2].drop 2).take (Try.prog.cellsOf 49)) = some y2 := hf 2 _ rfl
    rw [kk0] at h2'
    have h2 : DataW.trod enc Try.prog w base sp held n 49 [c2] = some y2 := h2'
    obtain ⟨a0, e0, _, _⟩ := DataW.trod_int Try.underlying3 h0
    obtain rfl := List.cons.inj e0 |>.1
    obtain ⟨a1, e1, _, _⟩ := DataW.trod_int Try.underlying3 h1
    obtain rfl := List.cons.inj e1 |>.1
    obtain ⟨l2, v2, e2, s2⟩ := reads_mvs _ _ _ h2 fun m hm => hw m (by simp only [DataW.weights, u]; exact DataW.weights_mem_each (j := 2) rfl rfl m hm)
    obtain rfl := List.cons.inj e2 |>.1
    exact ⟨⟨a0, a1, l2⟩, _, rfl, s2⟩

theorem reads_eds : Reads enc w base sp held 30 (fun cs (l : List Ed) => ∃ v, cs = [v] ∧ SlOf w 3 (REd w) v l) :=
  reads_slice (k := 3) Try.underlying30 (by kernel_rfl) (by omega) (of_decide_eq_true (by kernel_rfl)) reads_ed

theorem reads_pls : Reads enc w base sp held 64 (RPs w) :=
  reads_slice (k := 3) Try.underlying64 (by kernel_rfl) (by omega) (of_decide_eq_true (by kernel_rfl)) reads_pl

theorem reads_plss : Reads enc w base sp held 65 (RPss w) :=
  reads_slice (k := 1) Try.underlying65 (by kernel_rfl) (by omega) (of_decide_eq_true (by kernel_rfl)) reads_pls

theorem reads_plsss : Reads enc w base sp held 29 (fun cs (l : List (List (List Pl))) => ∃ v, cs = [v] ∧ SlOf w 1 (RPss w) v l) :=
  reads_slice (k := 1) Try.underlying29 (by kernel_rfl) (by omega) (of_decide_eq_true (by kernel_rfl)) reads_plss

set_option maxRecDepth 100000 in
theorem reads_out : Reads enc w base sp held 32 (fun cs (x : List (List (List Pl)) × List Ed × Int) => ∃ vp ve, cs = [vp, ve, .int .i64 x.2.2] ∧ SlOf w 1 (RPss w) vp x.1 ∧ SlOf w 3 (REd w) ve x.2.1) := by
  intro fuel cs x h hw
  have u := Try.underlying32
  obtain ⟨xs, n, _, rfl, hl, hxs, hf⟩ := DataW.trod_struct u h
  have hc : Try.prog.cellsOf 32 = 3 := by kernel_rfl
  rw [hc] at hl
  have kk0 : Try.prog.cellsOf 29 = 1 := by kernel_rfl
  have kk1 : Try.prog.cellsOf 30 = 1 := by kernel_rfl
  have kk2 : Try.prog.cellsOf 3 = 1 := by kernel_rfl
  match cs, hl with
  | [c0, c1, c2], _ =>
  match xs, hxs with
  | [y0, y1, y2], _ =>
    have h0' : DataW.trod enc Try.prog w base sp held n 29 (([c0, c1, c2].drop 0).take (Try.prog.cellsOf 29)) = some y0 := hf 0 _ rfl
    rw [kk0] at h0'
    have h0 : DataW.trod enc Try.prog w base sp held n 29 [c0] = some y0 := h0'
    have h1' : DataW.trod enc Try.prog w base sp held n 30 (([c0, c1, c2].drop 1).take (Try.prog.cellsOf 30)) = some y1 := hf 1 _ rfl
    rw [kk1] at h1'
    have h1 : DataW.trod enc Try.prog w base sp held n 30 [c1] = some y1 := h1'
    have h2' : DataW.trod enc Try.prog w base sp held n 3 (([c0, c1, c2].drop 2).take (Try.prog.cellsOf 3)) = some y2 := hf 2 _ rfl
    rw [kk2] at h2'
    have h2 : DataW.trod enc Try.prog w base sp held n 3 [c2] = some y2 := h2'
    obtain ⟨l0, v0, e0, s0⟩ := reads_plsss _ _ _ h0 fun m hm => hw m (by simp only [DataW.weights, u]; exact DataW.weights_mem_each (j := 0) rfl rfl m hm)
    obtain rfl := List.cons.inj e0 |>.1
    obtain ⟨l1, v1, e1, s1⟩ := reads_eds _ _ _ h1 fun m hm => hw m (by simp only [DataW.weights, u]; exact DataW.weights_mem_each (j := 1) rfl rfl m hm)
    obtain rfl := List.cons.inj e1 |>.1
    obtain ⟨a2, e2, _, _⟩ := DataW.trod_int Try.underlying3 h2
    obtain rfl := List.cons.inj e2 |>.1
    exact ⟨⟨l0, l1, a2⟩, _, _, rfl, s0, s1⟩

end
end Go.Proofs.Ytjbjnndmpheedaa
