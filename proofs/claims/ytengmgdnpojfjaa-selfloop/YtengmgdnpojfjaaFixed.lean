/-
  The contract of 'checker.fixed': the fixed register of an operand (P1.6), and whether it has one.
-/
import Derived.Test.YtengmgdnpojfjaaReuse
import Derived.BigRegion
namespace Go.Proofs.Ytengmgdnpojfjaa
open Go.RowKit
set_option linter.unusedVariables false

def named (all : List Opr) (o : Opr) : Opr := if o.limit = 5 then all.getD o.n.toNat ⟨0, 0, false, 0, 0⟩ else o
def fixedOf (values : List Int) (all : List Opr) (o : Opr) : Option (Int × Int) := if (named all o).limit = 4 then some (classAt values (named all o).value, (named all o).n) else none
def fixRes (p : Option (Int × Int)) : Value := .tuple #[.agg #[.int .i64 (p.getD (0, 0)).1, .int .i64 (p.getD (0, 0)).2], .bool p.isSome]

theorem ret_val {a b : Value} (h : a = b) : Ending.returned a = .returned b := by rw [h]

set_option maxHeartbeats 1000000 in
theorem fixed_any (values : List Int) (av : Option Addr) (cv : Nat) (vb : Value) (m0 m1 : Int) (o : Opr) (all : List Opr) (aa : Option Addr) (ca : Nat) (w : World) (hv : SlOf w 1 RInt (.slice av values.length cv) values)
    (ha : SlOf w 5 ROpr (.slice aa all.length ca) all) (hN : o.limit = 5 → 0 ≤ o.n ∧ o.n < (all.length : Int)) (hV : isValueB values.length (named all o).value = true) :
    Calls Try.prog 81 #[.agg #[.slice av values.length cv, vb, .int .i64 m0, .int .i64 m1], .agg #[.int .i64 o.kind, .int .i64 o.value, .bool o.late, .int .i64 o.limit, .int .i64 o.n], .slice aa all.length ca] w fun e w' => e = .returned (fixRes (fixedOf values all o)) ∧ Below w.heap.size w w' := by
  obtain ⟨_, _, _, lv⟩ := hv.out
  obtain ⟨_, _, _, la⟩ := ha.out
  unfold longest at lv la
  by_cases h5 : o.limit = 5
  · obtain ⟨n0, n1⟩ := hN h5
    have q5 : (o.limit == 5) = true := by simp [h5]
    have hi : o.n.toNat < all.length := by omega
    obtain ⟨b5, off5, rfl, hb5, c0, c1, c2, c3, c4⟩ := opr_cells ha o.n.toNat hi
    have hu : named all o = all[o.n.toNat] := by simp [named, h5, List.getD, List.getElem?_eq_getElem hi]
    generalize all[o.n.toNat] = u at *
    rw [hu] at hV
    have L5 := old_cell b5
    have e51 : b5 < w.heap.size + 1 := by omega
    have e52 : b5 < w.heap.size + 1 + 1 := by omega
    by_cases h4 : u.limit = 4
    · obtain ⟨bb, off, rfl, hcell, hbb, v0, v1⟩ := classAt_cell hv u.value hV
      have q4 : (u.limit != 4) = false := by simp [h4]
      have H : Hid (fixRes (some (classAt values u.value, u.n)) = fixRes (fixedOf values all o)) := by show _ = _; simp [fixedOf, hu, h4]
      have L6 := old_cell bb
      have f51 : bb < w.heap.size + 1 := by omega
      have f52 : bb < w.heap.size + 1 + 1 := by omega
      have f53 : bb < w.heap.size + 1 + 1 + 1 := by omega
      clear hu h4 h5
      go_enter Try.func81, Try.ntmps81
      go_wp2
      go_region
      all_goals go_wp2
      all_goals refine bodyPost_ret (v := fixRes (some (classAt values u.value, u.n))) (by simp [results, Try.results81, go_sem, fixRes]) rfl ⟨ret_val H.out, ?_⟩
      all_goals repeat (first | exact Below.refl _ _ | refine Below.drew ?_ | refine Below.alloc ?_ (by simp; try omega) _ | refine Below.setCell ?_ (by simp; try omega) _)
    · have q4 : (u.limit != 4) = true := by simpa using h4
      have H : Hid (fixRes none = fixRes (fixedOf values all o)) := by show _ = _; simp [fixedOf, hu, h4]
      clear hu h4 h5
      go_enter Try.func81, Try.ntmps81
      go_wp2
      refine bodyPost_ret (v := fixRes none) (by simp [results, Try.results81, go_sem, fixRes]) rfl ⟨ret_val H.out, ?_⟩
      repeat (first | exact Below.refl _ _ | refine Below.drew ?_ | refine Below.alloc ?_ (by simp; try omega) _ | refine Below.setCell ?_ (by simp; try omega) _)
  · have hu : named all o = o := by simp [named, h5]
    rw [hu] at hV
    have q5 : (o.limit == 5) = false := by simpa using h5
    by_cases h4 : o.limit = 4
    · obtain ⟨bb, off, rfl, hcell, hbb, v0, v1⟩ := classAt_cell hv o.value hV
      have q4 : (o.limit != 4) = false := by simp [h4]
      have H : Hid (fixRes (some (classAt values o.value, o.n)) = fixRes (fixedOf values all o)) := by show _ = _; simp [fixedOf, hu, h4]
      have L6 := old_cell bb
      have f51 : bb < w.heap.size + 1 := by omega
      have f52 : bb < w.heap.size + 1 + 1 := by omega
      have f53 : bb < w.heap.size + 1 + 1 + 1 := by omega
      clear hu h4 h5
      go_enter Try.func81, Try.ntmps81
      go_wp2
      go_region
      all_goals go_wp2
      all_goals refine bodyPost_ret (v := fixRes (some (classAt values o.value, o.n))) (by simp [results, Try.results81, go_sem, fixRes]) rfl ⟨ret_val H.out, ?_⟩
      all_goals repeat (first | exact Below.refl _ _ | refine Below.drew ?_ | refine Below.alloc ?_ (by simp; try omega) _ | refine Below.setCell ?_ (by simp; try omega) _)
    · have q4 : (o.limit != 4) = true := by simpa using h4
      have H : Hid (fixRes none = fixRes (fixedOf values all o)) := by show _ = _; simp [fixedOf, hu, h4]
      clear hu h4 h5
      go_enter Try.func81, Try.ntmps81
      go_wp2
      refine bodyPost_ret (v := fixRes none) (by simp [results, Try.results81, go_sem, fixRes]) rfl ⟨ret_val H.out, ?_⟩
      repeat (first | exact Below.refl _ _ | refine Below.drew ?_ | refine Below.alloc ?_ (by simp; try omega) _ | refine Below.setCell ?_ (by simp; try omega) _)
end Go.Proofs.Ytengmgdnpojfjaa
