/-
  The contract of 'checker.operand': which error an operand by itself has (P1.4), for whatever values, machine and operand.
-/
import Derived.Test.YtengmgdnpojfjaaSmall
namespace Go.Proofs.Ytengmgdnpojfjaa
open Go.RowKit
set_option linter.unusedVariables false

def classAt (values : List Int) (v : Int) : Int := values.getD v.toNat 0

def oprErr (values : List Int) (m0 m1 : Int) (o : Opr) : Int :=
  if ¬ (o.kind = 1 ∨ o.kind = 2) then 3
  else if o.limit < 1 ∨ 5 < o.limit then 3
  else if isValueB values.length o.value = false then 2
  else if o.limit = 4 then (if givB m0 m1 (classAt values o.value) o.n = true then 0 else 2)
  else if o.limit = 5 then (if o.kind = 2 ∧ o.late = true then 0 else 4)
  else if o.n = 0 then 0 else 4

theorem isValue_is (av : Option Addr) (n cv : Nat) (vb : Value) (m0 m1 v : Int) (b : Bool) (h : isValueB n v = b) (w : World) :
    Calls Try.prog 69 #[.agg #[.slice av n cv, vb, .int .i64 m0, .int .i64 m1], .int .i64 v] w fun e w' => e = .returned (.bool b) ∧ w' = w.alloc (.cells #[.slice av n cv, vb, .int .i64 m0, .int .i64 m1] 84) := by
  rw [← h]; exact isValue_any av n cv vb m0 m1 v w

theorem givable_is (vv vb : Value) (m0 m1 c n : Int) (b : Bool) (h : givB m0 m1 c n = b) (w : World) :
    Calls Try.prog 79 #[.agg #[vv, vb, .int .i64 m0, .int .i64 m1], .agg #[.int .i64 c, .int .i64 n]] w fun e w' => e = .returned (.bool b) ∧ Below w.heap.size w w' := by
  rw [← h]; exact givable_any vv vb m0 m1 c n w

theorem classAt_cell {w : World} {av : Option Addr} {cv : Nat} {values : List Int} (hv : SlOf w 1 RInt (.slice av values.length cv) values) (v : Int) (h : isValueB values.length v = true) :
    ∃ bb off, av = some ⟨bb, off, none⟩ ∧ w.cell? ⟨bb, off + v.toNat, none⟩ = some (.int .i64 (classAt values v)) ∧ bb < w.heap.size ∧ 0 ≤ v ∧ v < (values.length : Int) := by
  have hh : 0 ≤ v ∧ v < (values.length : Int) := by simpa [isValueB] using h
  obtain ⟨bb, off, cs, h1, h2, h3, h4⟩ := hv.at v.toNat (by omega)
  unfold RInt at h3
  subst h3
  have h5 := h4 0 (by simp)
  simp at h5
  refine ⟨bb, off, h1, ?_, block_lt h5, hh.1, hh.2⟩
  rw [h5, classAt]
  simp [List.getD, List.getElem?_eq_getElem (show v.toNat < values.length by omega)]

set_option maxHeartbeats 1000000 in
theorem operand_any' (values : List Int) (av : Option Addr) (cv : Nat) (vb : Value) (m0 m1 : Int) (o : Opr) (w : World) (hv : SlOf w 1 RInt (.slice av values.length cv) values) :
    Calls Try.prog 74 #[.agg #[.slice av values.length cv, vb, .int .i64 m0, .int .i64 m1], .agg #[.int .i64 o.kind, .int .i64 o.value, .bool o.late, .int .i64 o.limit, .int .i64 o.n]] w fun e w' => e = .returned (.int .i64 (oprErr values m0 m1 o)) ∧ Below w.heap.size w w' := by
  obtain ⟨_, _, _, lv⟩ := hv.out
  unfold longest at lv
  have hb2 : Below w.heap.size w ((w.alloc (.cells #[.slice av values.length cv, vb, .int .i64 m0, .int .i64 m1] 84)).alloc (.cells #[.int .i64 o.kind, .int .i64 o.value, .bool o.late, .int .i64 o.limit, .int .i64 o.n] 43)) := ((Below.refl _ _).alloc (Nat.le_refl _) _).alloc (by simp) _
  have hbW : Below w.heap.size w (((w.alloc (.cells #[.slice av values.length cv, vb, .int .i64 m0, .int .i64 m1] 84)).alloc (.cells #[.int .i64 o.kind, .int .i64 o.value, .bool o.late, .int .i64 o.limit, .int .i64 o.n] 43)).alloc (.cells #[.slice av values.length cv, vb, .int .i64 m0, .int .i64 m1] 84)) := hb2.alloc (by simp; omega) _
  by_cases hk : o.kind = 1 ∨ o.kind = 2
  · by_cases hl : o.limit < 1 ∨ 5 < o.limit
    · have H : Hid (3 = oprErr values m0 m1 o) := by show _ = _; unfold oprErr; rw [if_neg (by omega), if_pos hl]
      have hk' : (o.kind != 1) = false ∨ ((o.kind != 1) = true ∧ (o.kind != 2) = false) := by rcases hk with h | h <;> simp [h]
      clear hbW
      rcases hk' with k1 | ⟨k1, k2⟩
      all_goals
        clear hk
        rcases hl with l1 | l1
        all_goals
          go_enter Try.func74, Try.ntmps74
          go_wp2
          go_ret
          exact ⟨ret_int H.out, hb2⟩
    · have l1 : ¬ o.limit < 1 := by omega
      have l2 : ¬ 5 < o.limit := by omega
      cases hval : isValueB values.length o.value
      · have H : Hid (2 = oprErr values m0 m1 o) := by show _ = _; unfold oprErr; rw [if_neg (by omega), if_neg hl, if_pos hval]
        have hk' : (o.kind != 1) = false ∨ ((o.kind != 1) = true ∧ (o.kind != 2) = false) := by rcases hk with h | h <;> simp [h]
        clear hl
        rcases hk' with k1 | ⟨k1, k2⟩
        all_goals
          clear hk
          go_enter Try.func74, Try.ntmps74
          go_wp2_with (go_at_call 69; refine (isValue_is _ _ _ _ _ _ _ false hval _).mono ?_; rintro e w' ⟨rfl, rfl⟩)
          go_ret
          exact ⟨ret_int H.out, hbW⟩
      · by_cases h4 : o.limit = 4
        · obtain ⟨bb, off, rfl, hcell, hbb, v0, v1⟩ := classAt_cell hv o.value hval
          have q4 : (o.limit == 4) = true := by simp [h4]
          have hne : bb ≠ w.heap.size := by omega
          have hne1 : bb ≠ w.heap.size + 1 := by omega
          have hne2 : bb ≠ w.heap.size + 1 + 1 := by omega
          have hs1 : bb < w.heap.size + 1 + 1 + 1 := by omega
          have hs2 : w.heap.size < w.heap.size + 1 + 1 + 1 := by omega
          have hk' : (o.kind != 1) = false ∨ ((o.kind != 1) = true ∧ (o.kind != 2) = false) := by rcases hk with h | h <;> simp [h]
          cases hg : givB m0 m1 (classAt values o.value) o.n
          · have H : Hid (2 = oprErr values m0 m1 o) := by show _ = _; unfold oprErr; rw [if_neg (by omega), if_neg hl, if_neg (by simp [hval]), if_pos h4, if_neg (by simp [hg])]
            rcases hk' with k1 | ⟨k1, k2⟩
            all_goals
              clear hk hl h4
              go_enter Try.func74, Try.ntmps74
              go_wp2_with (go_at_call 69; refine (isValue_is _ _ _ _ _ _ _ true hval _).mono ?_; rintro e w' ⟨rfl, rfl⟩)
              go_region_held3 (fun wx => wx.cell? ⟨w.heap.size, 0, none⟩ = some (.slice (some ⟨bb, off, none⟩) values.length cv) ∧ wx.cell? ⟨w.heap.size, 1, none⟩ = some (vb) ∧ wx.cell? ⟨w.heap.size, 2, none⟩ = some (.int .i64 m0) ∧ wx.cell? ⟨w.heap.size, 3, none⟩ = some (.int .i64 m1) ∧ wx.cell? ⟨w.heap.size + 1, 0, none⟩ = some (.int .i64 o.kind) ∧ wx.cell? ⟨w.heap.size + 1, 1, none⟩ = some (.int .i64 o.value) ∧ wx.cell? ⟨w.heap.size + 1, 2, none⟩ = some (.bool o.late) ∧ wx.cell? ⟨w.heap.size + 1, 3, none⟩ = some (.int .i64 o.limit) ∧ wx.cell? ⟨w.heap.size + 1, 4, none⟩ = some (.int .i64 o.n) ∧ wx.cell? ⟨bb, off + o.value.toNat, none⟩ = some (.int .i64 (classAt values o.value)) ∧ w.heap.size < wx.heap.size ∧ w.heap.size + 1 < wx.heap.size ∧ bb < wx.heap.size ∧ Below w.heap.size w wx) (((try (dsimp only at *)); (try go_split_ands); (repeat' apply And.intro); all_goals (first | assumption | (simp [*, World.cell?_alloc_some]; done) | (go_simp; done) | (simp; omega) | (exact hbW.drew) | (exact (hbW.drew.cell (p := ⟨_, _, none⟩) (by assumption)).trans (by assumption)) | (exact (hb.cell (p := ⟨_, _, none⟩) (by assumption)).trans (by assumption)) | (exact Nat.lt_of_lt_of_le (by assumption) hb.size) | (exact (‹Below w.heap.size w _›).trans (hb.mono (‹Below w.heap.size w _›).size)))))
                (first | (go_at_call 79; refine (givable_is _ _ _ _ _ _ false hg _).mono ?_; rintro e w' ⟨rfl, hb⟩))
              go_split_ands
              go_wp2
              go_ret
              exact ⟨ret_int H.out, by assumption⟩
          · have H : Hid (0 = oprErr values m0 m1 o) := by show _ = _; unfold oprErr; rw [if_neg (by omega), if_neg hl, if_neg (by simp [hval]), if_pos h4, if_pos hg]
            rcases hk' with k1 | ⟨k1, k2⟩
            all_goals
              clear hk hl h4
              go_enter Try.func74, Try.ntmps74
              go_wp2_with (go_at_call 69; refine (isValue_is _ _ _ _ _ _ _ true hval _).mono ?_; rintro e w' ⟨rfl, rfl⟩)
              go_region_held3 (fun wx => wx.cell? ⟨w.heap.size, 0, none⟩ = some (.slice (some ⟨bb, off, none⟩) values.length cv) ∧ wx.cell? ⟨w.heap.size, 1, none⟩ = some (vb) ∧ wx.cell? ⟨w.heap.size, 2, none⟩ = some (.int .i64 m0) ∧ wx.cell? ⟨w.heap.size, 3, none⟩ = some (.int .i64 m1) ∧ wx.cell? ⟨w.heap.size + 1, 0, none⟩ = some (.int .i64 o.kind) ∧ wx.cell? ⟨w.heap.size + 1, 1, none⟩ = some (.int .i64 o.value) ∧ wx.cell? ⟨w.heap.size + 1, 2, none⟩ = some (.bool o.late) ∧ wx.cell? ⟨w.heap.size + 1, 3, none⟩ = some (.int .i64 o.limit) ∧ wx.cell? ⟨w.heap.size + 1, 4, none⟩ = some (.int .i64 o.n) ∧ wx.cell? ⟨bb, off + o.value.toNat, none⟩ = some (.int .i64 (classAt values o.value)) ∧ w.heap.size < wx.heap.size ∧ w.heap.size + 1 < wx.heap.size ∧ bb < wx.heap.size ∧ Below w.heap.size w wx) (((try (dsimp only at *)); (try go_split_ands); (repeat' apply And.intro); all_goals (first | assumption | (simp [*, World.cell?_alloc_some]; done) | (go_simp; done) | (simp; omega) | (exact hbW.drew) | (exact (hbW.drew.cell (p := ⟨_, _, none⟩) (by assumption)).trans (by assumption)) | (exact (hb.cell (p := ⟨_, _, none⟩) (by assumption)).trans (by assumption)) | (exact Nat.lt_of_lt_of_le (by assumption) hb.size) | (exact (‹Below w.heap.size w _›).trans (hb.mono (‹Below w.heap.size w _›).size)))))
                (first | (go_at_call 79; refine (givable_is _ _ _ _ _ _ true hg _).mono ?_; rintro e w' ⟨rfl, hb⟩))
              go_split_ands
              go_wp2
              go_ret
              exact ⟨ret_int H.out, by assumption⟩
        · have q4 : (o.limit == 4) = false := by simpa using h4
          by_cases h5 : o.limit = 5
          · have q5 : (o.limit == 5) = true := by simp [h5]
            by_cases k2 : o.kind = 2
            · have n1 : (o.kind != 1) = true := by simp [k2]
              have n2 : (o.kind != 2) = false := by simp [k2]
              cases hlate : o.late
              · have H : Hid (4 = oprErr values m0 m1 o) := by show _ = _; unfold oprErr; rw [if_neg (by omega), if_neg hl, if_neg (by simp [hval]), if_neg h4, if_pos h5, if_neg (by simp [hlate])]
                clear hk hl h4 h5 k2
                rw [hlate] at hbW hb2
                go_enter Try.func74, Try.ntmps74
                go_wp2_with (go_at_call 69; refine (isValue_is _ _ _ _ _ _ _ true hval _).mono ?_; rintro e w' ⟨rfl, rfl⟩)
                go_ret
                exact ⟨ret_int H.out, hbW⟩
              · have H : Hid (0 = oprErr values m0 m1 o) := by show _ = _; unfold oprErr; rw [if_neg (by omega), if_neg hl, if_neg (by simp [hval]), if_neg h4, if_pos h5, if_pos ⟨k2, hlate⟩]
                clear hk hl h4 h5 k2
                rw [hlate] at hbW hb2
                go_enter Try.func74, Try.ntmps74
                go_wp2_with (go_at_call 69; refine (isValue_is _ _ _ _ _ _ _ true hval _).mono ?_; rintro e w' ⟨rfl, rfl⟩)
                go_ret
                exact ⟨ret_int H.out, hbW⟩
            · have k1 : o.kind = 1 := by omega
              have n1 : (o.kind != 1) = false := by simp [k1]
              have n2 : (o.kind != 2) = true := by simp [k1]
              have H : Hid (4 = oprErr values m0 m1 o) := by show _ = _; unfold oprErr; rw [if_neg (by omega), if_neg hl, if_neg (by simp [hval]), if_neg h4, if_pos h5, if_neg (by omega)]
              clear hk hl h4 h5 k2 k1
              go_enter Try.func74, Try.ntmps74
              go_wp2_with (go_at_call 69; refine (isValue_is _ _ _ _ _ _ _ true hval _).mono ?_; rintro e w' ⟨rfl, rfl⟩)
              go_ret
              exact ⟨ret_int H.out, hbW⟩
          · have q5 : (o.limit == 5) = false := by simpa using h5
            have hk' : (o.kind != 1) = false ∨ ((o.kind != 1) = true ∧ (o.kind != 2) = false) := by rcases hk with h | h <;> simp [h]
            by_cases hn : o.n = 0
            · have qn : (o.n != 0) = false := by simp [hn]
              have H : Hid (0 = oprErr values m0 m1 o) := by show _ = _; unfold oprErr; rw [if_neg (by omega), if_neg hl, if_neg (by simp [hval]), if_neg h4, if_neg h5, if_pos hn]
              rcases hk' with k1 | ⟨k1, k2⟩
              all_goals
                clear hk hl h4 h5 hn
                go_enter Try.func74, Try.ntmps74
                go_wp2_with (go_at_call 69; refine (isValue_is _ _ _ _ _ _ _ true hval _).mono ?_; rintro e w' ⟨rfl, rfl⟩)
                go_ret
                exact ⟨ret_int H.out, hbW⟩
            · have qn : (o.n != 0) = true := by simpa using hn
              have H : Hid (4 = oprErr values m0 m1 o) := by show _ = _; unfold oprErr; rw [if_neg (by omega), if_neg hl, if_neg (by simp [hval]), if_neg h4, if_neg h5, if_neg hn]
              rcases hk' with k1 | ⟨k1, k2⟩
              all_goals
                clear hk hl h4 h5 hn
                go_enter Try.func74, Try.ntmps74
                go_wp2_with (go_at_call 69; refine (isValue_is _ _ _ _ _ _ _ true hval _).mono ?_; rintro e w' ⟨rfl, rfl⟩)
                go_ret
                exact ⟨ret_int H.out, hbW⟩
  · have n1 : (o.kind != 1) = true := by simp; omega
    have n2 : (o.kind != 2) = true := by simp; omega
    have H : Hid (3 = oprErr values m0 m1 o) := by show _ = _; unfold oprErr; rw [if_pos hk]
    clear hk
    go_enter Try.func74, Try.ntmps74
    go_wp2
    go_ret
    exact ⟨ret_int H.out, hb2⟩
end Go.Proofs.Ytengmgdnpojfjaa
