/-
  The contract of 'checker.reuse': which error a Reuse has by what it names (P1.4), where all operands' values are there.
-/
import Derived.Test.YtengmgdnpojfjaaOpnd
namespace Go.Proofs.Ytengmgdnpojfjaa
open Go.RowKit
set_option linter.unusedVariables false

def reuseErr (values : List Int) (o : Opr) (all : List Opr) : Int :=
  if o.n < 0 ∨ (all.length : Int) ≤ o.n then 6
  else match all[o.n.toNat]? with
    | none => 6
    | some u => if u.kind = 1 ∧ u.late = false then (if classAt values u.value = classAt values o.value then 0 else 17) else 4

theorem opr_cells {w : World} {aa : Option Addr} {ca n : Nat} {all : List Opr} (ha : SlOf w 5 ROpr (.slice aa n ca) all) (i : Nat) (hi : i < all.length) :
    ∃ b off, aa = some ⟨b, off, none⟩ ∧ b < w.heap.size ∧ w.cell? ⟨b, off + i * 5, none⟩ = some (.int .i64 all[i].kind) ∧ w.cell? ⟨b, off + i * 5 + 1, none⟩ = some (.int .i64 all[i].value) ∧ w.cell? ⟨b, off + i * 5 + 2, none⟩ = some (.bool all[i].late) ∧ w.cell? ⟨b, off + i * 5 + 3, none⟩ = some (.int .i64 all[i].limit) ∧ w.cell? ⟨b, off + i * 5 + 4, none⟩ = some (.int .i64 all[i].n) := by
  obtain ⟨b, off, cs, h1, h2, h3, h4⟩ := ha.at i hi
  unfold ROpr at h3
  subst h3
  have c0 := h4 0 (by simp)
  have c1 := h4 1 (by simp)
  have c2 := h4 2 (by simp)
  have c3 := h4 3 (by simp)
  have c4 := h4 4 (by simp)
  simp at c0 c1 c2 c3 c4
  exact ⟨b, off, h1, block_lt c0, c0, c1, c2, c3, c4⟩

set_option maxHeartbeats 1000000 in
theorem reuse_any (values : List Int) (av : Option Addr) (cv : Nat) (vb : Value) (m0 m1 : Int) (o : Opr) (all : List Opr) (aa : Option Addr) (ca : Nat) (w : World) (hv : SlOf w 1 RInt (.slice av values.length cv) values)
    (ha : SlOf w 5 ROpr (.slice aa all.length ca) all) (hov : isValueB values.length o.value = true) (hall : ∀ u ∈ all, isValueB values.length u.value = true) :
    Calls Try.prog 75 #[.agg #[.slice av values.length cv, vb, .int .i64 m0, .int .i64 m1], .agg #[.int .i64 o.kind, .int .i64 o.value, .bool o.late, .int .i64 o.limit, .int .i64 o.n], .slice aa all.length ca] w fun e w' => e = .returned (.int .i64 (reuseErr values o all)) ∧ Below w.heap.size w w' := by
  obtain ⟨_, _, _, lv⟩ := hv.out
  obtain ⟨_, _, _, la⟩ := ha.out
  unfold longest at lv la
  have hb2 : Below w.heap.size w ((w.alloc (.cells #[.slice av values.length cv, vb, .int .i64 m0, .int .i64 m1] 84)).alloc (.cells #[.int .i64 o.kind, .int .i64 o.value, .bool o.late, .int .i64 o.limit, .int .i64 o.n] 43)) := ((Below.refl _ _).alloc (Nat.le_refl _) _).alloc (by simp) _
  by_cases hn : o.n < 0
  · have H : Hid (6 = reuseErr values o all) := by show _ = _; unfold reuseErr; rw [if_pos (by omega)]
    go_enter Try.func75, Try.ntmps75
    go_wp2
    go_ret
    exact ⟨ret_int H.out, hb2⟩
  · by_cases hm : (all.length : Int) ≤ o.n
    · have H : Hid (6 = reuseErr values o all) := by show _ = _; unfold reuseErr; rw [if_pos (by omega)]
      go_enter Try.func75, Try.ntmps75
      go_wp2
      go_ret
      exact ⟨ret_int H.out, hb2⟩
    · have hi : o.n.toNat < all.length := by omega
      have hg : all[o.n.toNat]? = some all[o.n.toNat] := List.getElem?_eq_getElem hi
      have hu := hall _ (List.getElem_mem hi)
      obtain ⟨b5, off5, rfl, hb5, c0, c1, c2, c3, c4⟩ := opr_cells ha o.n.toNat hi
      generalize all[o.n.toNat] = u at *
      have n0 : 0 ≤ o.n := by omega
      have n1 : o.n < (all.length : Int) := by omega
      have e5 : b5 ≠ w.heap.size := by omega
      have e51 : b5 ≠ w.heap.size + 1 := by omega
      have hb3 := hb2.alloc (by simp; omega) (.cells #[.int .i64 u.kind, .int .i64 u.value, .bool u.late, .int .i64 u.limit, .int .i64 u.n] 43)
      by_cases hk : u.kind = 1
      · have k1 : (u.kind != 1) = false := by simp [hk]
        cases hlate : u.late
        · rw [hlate] at hb3
          obtain ⟨bb, off, rfl, hcell, hbb, v0, v1⟩ := classAt_cell hv o.value hov
          obtain ⟨bb', off', hav, hcell', hbb', v0', v1'⟩ := classAt_cell hv u.value hu
          simp only [Option.some.injEq, Addr.mk.injEq] at hav
          obtain ⟨rfl, rfl, _⟩ := hav
          have hbW := hb3
          have hs1 : bb < w.heap.size + 1 + 1 + 1 := by omega
          have hs2 : w.heap.size < w.heap.size + 1 + 1 + 1 := by omega
          rw [hlate] at c2
          by_cases hcl : classAt values u.value = classAt values o.value
          · have q : (classAt values u.value != classAt values o.value) = false := by simpa using hcl
            have H : Hid (0 = reuseErr values o all) := by show _ = _; unfold reuseErr; rw [if_neg (by omega), hg]; simp [hk, hlate, hcl]
            clear hk hcl hg
            go_enter Try.func75, Try.ntmps75
            go_wp2
            go_region_held3 (fun wx => wx.cell? ⟨w.heap.size, 0, none⟩ = some (.slice (some ⟨bb, off, none⟩) values.length cv) ∧ wx.cell? ⟨w.heap.size, 1, none⟩ = some (vb) ∧ wx.cell? ⟨w.heap.size, 2, none⟩ = some (.int .i64 m0) ∧ wx.cell? ⟨w.heap.size, 3, none⟩ = some (.int .i64 m1) ∧ wx.cell? ⟨w.heap.size + 1, 0, none⟩ = some (.int .i64 o.kind) ∧ wx.cell? ⟨w.heap.size + 1, 1, none⟩ = some (.int .i64 o.value) ∧ wx.cell? ⟨w.heap.size + 1, 2, none⟩ = some (.bool o.late) ∧ wx.cell? ⟨w.heap.size + 1, 3, none⟩ = some (.int .i64 o.limit) ∧ wx.cell? ⟨w.heap.size + 1, 4, none⟩ = some (.int .i64 o.n) ∧ wx.cell? ⟨w.heap.size + 1 + 1, 0, none⟩ = some (.int .i64 u.kind) ∧ wx.cell? ⟨w.heap.size + 1 + 1, 1, none⟩ = some (.int .i64 u.value) ∧ wx.cell? ⟨w.heap.size + 1 + 1, 2, none⟩ = some (.bool false) ∧ wx.cell? ⟨w.heap.size + 1 + 1, 3, none⟩ = some (.int .i64 u.limit) ∧ wx.cell? ⟨w.heap.size + 1 + 1, 4, none⟩ = some (.int .i64 u.n) ∧ wx.cell? ⟨bb, off + o.value.toNat, none⟩ = some (.int .i64 (classAt values o.value)) ∧ wx.cell? ⟨bb, off + u.value.toNat, none⟩ = some (.int .i64 (classAt values u.value)) ∧ w.heap.size < wx.heap.size ∧ w.heap.size + 1 < wx.heap.size ∧ w.heap.size + 1 + 1 < wx.heap.size ∧ bb < wx.heap.size ∧ Below w.heap.size w wx) (((try (dsimp only at *)); (try go_split_ands); (repeat' apply And.intro); all_goals (first | assumption | (simp [*, World.cell?_alloc_some]; done) | (go_simp; done) | (simp; omega) | (exact hbW.drew) | (exact (hbW.drew.cell (p := ⟨_, _, none⟩) (by assumption)).trans (by assumption)) | (exact (hb.cell (p := ⟨_, _, none⟩) (by assumption)).trans (by assumption)) | (exact Nat.lt_of_lt_of_le (by assumption) hb.size) | (exact (‹Below w.heap.size w _›).trans (hb.mono (‹Below w.heap.size w _›).size))))) (fail)
            go_split_ands
            go_wp2
            go_ret
            exact ⟨ret_int H.out, by assumption⟩
          · have q : (classAt values u.value != classAt values o.value) = true := by simpa using hcl
            have H : Hid (17 = reuseErr values o all) := by show _ = _; unfold reuseErr; rw [if_neg (by omega), hg]; simp [hk, hlate, hcl]
            clear hk hcl hg
            go_enter Try.func75, Try.ntmps75
            go_wp2
            go_region_held3 (fun wx => wx.cell? ⟨w.heap.size, 0, none⟩ = some (.slice (some ⟨bb, off, none⟩) values.length cv) ∧ wx.cell? ⟨w.heap.size, 1, none⟩ = some (vb) ∧ wx.cell? ⟨w.heap.size, 2, none⟩ = some (.int .i64 m0) ∧ wx.cell? ⟨w.heap.size, 3, none⟩ = some (.int .i64 m1) ∧ wx.cell? ⟨w.heap.size + 1, 0, none⟩ = some (.int .i64 o.kind) ∧ wx.cell? ⟨w.heap.size + 1, 1, none⟩ = some (.int .i64 o.value) ∧ wx.cell? ⟨w.heap.size + 1, 2, none⟩ = some (.bool o.late) ∧ wx.cell? ⟨w.heap.size + 1, 3, none⟩ = some (.int .i64 o.limit) ∧ wx.cell? ⟨w.heap.size + 1, 4, none⟩ = some (.int .i64 o.n) ∧ wx.cell? ⟨w.heap.size + 1 + 1, 0, none⟩ = some (.int .i64 u.kind) ∧ wx.cell? ⟨w.heap.size + 1 + 1, 1, none⟩ = some (.int .i64 u.value) ∧ wx.cell? ⟨w.heap.size + 1 + 1, 2, none⟩ = some (.bool false) ∧ wx.cell? ⟨w.heap.size + 1 + 1, 3, none⟩ = some (.int .i64 u.limit) ∧ wx.cell? ⟨w.heap.size + 1 + 1, 4, none⟩ = some (.int .i64 u.n) ∧ wx.cell? ⟨bb, off + o.value.toNat, none⟩ = some (.int .i64 (classAt values o.value)) ∧ wx.cell? ⟨bb, off + u.value.toNat, none⟩ = some (.int .i64 (classAt values u.value)) ∧ w.heap.size < wx.heap.size ∧ w.heap.size + 1 < wx.heap.size ∧ w.heap.size + 1 + 1 < wx.heap.size ∧ bb < wx.heap.size ∧ Below w.heap.size w wx) (((try (dsimp only at *)); (try go_split_ands); (repeat' apply And.intro); all_goals (first | assumption | (simp [*, World.cell?_alloc_some]; done) | (go_simp; done) | (simp; omega) | (exact hbW.drew) | (exact (hbW.drew.cell (p := ⟨_, _, none⟩) (by assumption)).trans (by assumption)) | (exact (hb.cell (p := ⟨_, _, none⟩) (by assumption)).trans (by assumption)) | (exact Nat.lt_of_lt_of_le (by assumption) hb.size) | (exact (‹Below w.heap.size w _›).trans (hb.mono (‹Below w.heap.size w _›).size))))) (fail)
            go_split_ands
            go_wp2
            go_ret
            exact ⟨ret_int H.out, by assumption⟩
        · rw [hlate] at hb3 c2
          have H : Hid (4 = reuseErr values o all) := by show _ = _; unfold reuseErr; rw [if_neg (by omega), hg]; simp [hlate]
          clear hk hg
          go_enter Try.func75, Try.ntmps75
          go_wp2
          go_ret
          exact ⟨ret_int H.out, hb3⟩
      · have k1 : (u.kind != 1) = true := by simpa using hk
        have H : Hid (4 = reuseErr values o all) := by show _ = _; unfold reuseErr; rw [if_neg (by omega), hg]; simp [hk]
        clear hk hg
        go_enter Try.func75, Try.ntmps75
        go_wp2
        go_ret
        exact ⟨ret_int H.out, hb3⟩
end Go.Proofs.Ytengmgdnpojfjaa
