/-
  The walk through 'ReuseBad': it answers true for all numbers, and writes to nothing that was there.
-/
import Derived.Test.YtnghhhlcifpiaabOwn
import Derived.Deep.RegionLaw
import Derived.Deep.RegionWith
import Derived.Deep.DeepCutAuto
import Derived.Deep.CutBlock
namespace Go.Proofs.Ytnghhhlcifpiaab
open Go.RowKit
set_option linter.unusedVariables false

def rbF (u d : Opr) : Fn := ⟨[0, 0, 1], [⟨[], [⟨0, [⟨2, 0, false, 1, 0⟩, ⟨2, 2, false, 1, 0⟩], []⟩, ⟨0, [u, d], []⟩], []⟩]⟩
theorem rbF1 (n : Int) (h0 : 2 ≤ n) (h1 : n < 11) : shapeErr (rbF ⟨1, 0, false, 1, 0⟩ ⟨2, 1, true, 5, n⟩) 10 10 = 6 := by
  have h : n = 2 ∨ n = 3 ∨ n = 4 ∨ n = 5 ∨ n = 6 ∨ n = 7 ∨ n = 8 ∨ n = 9 ∨ n = 10 := by omega
  rcases h with rfl | rfl | rfl | rfl | rfl | rfl | rfl | rfl | rfl <;> decide
theorem rbF0 : shapeErr (rbF ⟨1, 0, false, 1, 0⟩ ⟨2, 1, true, 5, 0⟩) 10 10 = 0 := by decide
theorem rbF2 : shapeErr (rbF ⟨1, 0, true, 1, 0⟩ ⟨2, 1, true, 5, 0⟩) 10 10 = 4 := by decide
theorem rbF3 : shapeErr (rbF ⟨1, 2, false, 1, 0⟩ ⟨2, 1, true, 5, 0⟩) 10 10 = 17 := by decide
theorem rbF4 : shapeErr (rbF ⟨1, 0, false, 1, 0⟩ ⟨2, 1, false, 5, 0⟩) 10 10 = 4 := by decide

theorem heap_at {W : World} {o : Obj} {n : Nat} (h : n = W.heap.size) : (W.alloc o).heap[n]? = some o := by subst h; exact heap_alloc_new W o
theorem rb_close {w1 wc wb : World} {M BB IB e g cap : Nat} {ob : Obj} {xs : List Value} {cv : Value} (hown : wb.ownsRow M e 3 (.slice (some ⟨g, 0, none⟩) 2 cap) 2 xs) (hgrow : (wc.alloc ob).drew.grownBy wb (some IB)) (hat : some IB = some g ∨ g = wc.heap.size + 1) (hBI : BB ≠ IB) (hBl : BB < wc.heap.size) (hM : M ≤ BB) (hMI : M ≤ IB) (hMw : M ≤ wc.heap.size) (hb : Below M w1 wc) (cBB : wb.cell? ⟨BB, 1, none⟩ = some cv) :
    (wb.setCell ⟨BB, 1, none⟩ (.slice (some ⟨g, 0, none⟩) 2 cap)).ownsRow M e 3 (.slice (some ⟨g, 0, none⟩) 2 cap) 2 xs ∧ (wb.setCell ⟨BB, 1, none⟩ (.slice (some ⟨g, 0, none⟩) 2 cap)).cell? ⟨BB, 1, none⟩ = some (.slice (some ⟨g, 0, none⟩) 2 cap) ∧
      (∀ b o, b < wc.heap.size → b ≠ IB → (b ≠ BB ∨ o ≠ 1) → (wb.setCell ⟨BB, 1, none⟩ (.slice (some ⟨g, 0, none⟩) 2 cap)).cell? ⟨b, o, none⟩ = wc.cell? ⟨b, o, none⟩) ∧ Below M w1 (wb.setCell ⟨BB, 1, none⟩ (.slice (some ⟨g, 0, none⟩) 2 cap)) ∧ wc.heap.size < (wb.setCell ⟨BB, 1, none⟩ (.slice (some ⟨g, 0, none⟩) 2 cap)).heap.size := by
  have hz := hgrow.size
  simp at hz
  have hgB : g ≠ BB := by
    rcases hat with h | h
    · simp at h; omega
    · omega
  refine ⟨own_keep hown fun h hh _ _ => ?_, World.cell?_setCell_same _ _ _ cBB, fun b o hbl hbI hbo => ?_, ?_, by simp; omega⟩
  · simp [Value.ownBlock] at hh
    subst hh
    exact Below.heap_setCell _ _ _ _ hgB
  · have h1 : wb.cell? ⟨b, o, none⟩ = wc.cell? ⟨b, o, none⟩ := by
      refine (hgrow.cell_far ⟨b, o, none⟩ (by simp; omega) (by simp; exact hbI)).trans ?_
      exact old_cell b wc ob o hbl
    rw [← h1]
    by_cases hbb : b = BB
    · subst hbb
      have ho : o ≠ 1 := by rcases hbo with h | h; exact absurd rfl h; exact h
      have := World.cell?_setCells_out b [.slice (some ⟨g, 0, none⟩) 2 cap] 1 wb ⟨b, o, none⟩ (fun _ _ => by simp; omega)
      simpa [World.setCells] using this
    · exact World.cell?_of_block (Below.heap_setCell _ _ _ _ hbb)
  · refine Below.setCell ?_ hM _
    exact ((hb.alloc hMw ob).drew).grown hgrow (by simp; omega) (fun k hk => by simp at hk; omega)
theorem own_cell {w : World} {base e k n g cap : Nat} {xs : List Value} (h : w.ownsRow base e k (.slice (some ⟨g, 0, none⟩) n cap) n xs) (j : Nat) (hj : j < xs.length) : w.cell? ⟨g, j, none⟩ = some xs[j] := by
  obtain ⟨hlen, h⟩ := h
  rcases h with ⟨h, _⟩ | ⟨g', cap', cur, hv, hb, hg, hnc, hc, hcs, htake⟩
  · cases h
  · simp only [Value.slice.injEq, Option.some.injEq, Addr.mk.injEq] at hv
    obtain ⟨⟨rfl, _⟩, _, rfl⟩ := hv
    have h1 : xs[j]? = some xs[j] := List.getElem?_eq_getElem hj
    obtain ⟨v, hv'⟩ : ∃ v, xs[j] = v := ⟨_, rfl⟩
    rw [hv'] at h1 ⊢
    rw [← htake, List.getElem?_take, if_pos (by omega)] at h1
    simp only [World.cell?, hg]
    simpa using h1
theorem SlOf_three {α : Type} {w : World} {k : Nat} {R : List Value → α → Prop} {b off cap : Nat} {x y z : α} (cs ds es : List Value) (hk : cs.length = k) (hk' : ds.length = k) (hk'' : es.length = k) (hR : R cs x) (hR' : R ds y) (hR'' : R es z) (hc : ∀ j (hj : j < cs.length), w.cell? ⟨b, off + j, none⟩ = some cs[j]) (hd : ∀ j (hj : j < ds.length), w.cell? ⟨b, off + k + j, none⟩ = some ds[j]) (he : ∀ j (hj : j < es.length), w.cell? ⟨b, off + 2 * k + j, none⟩ = some es[j]) : SlOf w k R (.slice (some ⟨b, off, none⟩) 3 cap) [x, y, z] := by
  refine ⟨_, cap, rfl, by simp [longest], Or.inr ⟨b, off, rfl, fun i hi => ?_⟩⟩
  have e : i = 0 ∨ i = 1 ∨ i = 2 := by simp at hi; omega
  rcases e with rfl | rfl | rfl
  · exact ⟨cs, hk, hR, fun j hj => by simpa using hc j hj⟩
  · exact ⟨ds, hk', hR', fun j hj => by simpa using hd j hj⟩
  · exact ⟨es, hk'', hR'', fun j hj => by simpa using he j hj⟩
def rbW (w1 : World) (u d : Opr) : World := (((((((w1.alloc (.cells #[.int .i64 10, .int .i64 10] 24)).alloc (.cells #[.int .i64 0, .int .i64 0, .int .i64 1] 3)).alloc (.cells #[.int .i64 2, .int .i64 0, .bool false, .int .i64 1, .int .i64 0, .int .i64 2, .int .i64 2, .bool false, .int .i64 1, .int .i64 0] 36)).alloc (.cells #[.int .i64 0, .slice (some ⟨w1.heap.size + 1 + 1, 0, none⟩) 2 2, .slice none 0 0] 30)).alloc (.cells #[.slice none 0 0, .slice (some ⟨w1.heap.size + 1 + 1 + 1, 0, none⟩) 1 1, .slice none 0 0] 42)).alloc (.cells #[.slice (some ⟨w1.heap.size + 1, 0, none⟩) 3 3, .slice (some ⟨w1.heap.size + 1 + 1 + 1 + 1, 0, none⟩) 1 1] 34)).alloc (.cells #[.int .i64 u.kind, .int .i64 u.value, .bool u.late, .int .i64 u.limit, .int .i64 u.n, .int .i64 d.kind, .int .i64 d.value, .bool d.late, .int .i64 d.limit, .int .i64 d.n] 36)).alloc (.cells #[.int .i64 0, .slice (some ⟨w1.heap.size + 1 + 1 + 1 + 1 + 1 + 1, 0, none⟩) 2 2, .slice none 0 0] 30)
theorem rbW_size (w1 : World) (u d : Opr) : (rbW w1 u d).heap.size = w1.heap.size + 1 + 1 + 1 + 1 + 1 + 1 + 1 + 1 := by unfold rbW; simp
theorem rbW_below (w1 : World) (u d : Opr) : Below w1.heap.size w1 (rbW w1 u d) := by
  unfold rbW
  repeat (first | exact Below.refl _ _ | refine Below.alloc ?_ (by simp; try omega) _)
theorem rbW_IB (w1 : World) (u d : Opr) : (rbW w1 u d).heap[w1.heap.size + 1 + 1 + 1]? = some (.cells #[.int .i64 0, .slice (some ⟨w1.heap.size + 1 + 1, 0, none⟩) 2 2, .slice none 0 0] 30 (0, 0)) := by
  unfold rbW
  rw [Below.heap_alloc _ _ _ (by simp), Below.heap_alloc _ _ _ (by simp), Below.heap_alloc _ _ _ (by simp), Below.heap_alloc _ _ _ (by simp)]
  exact heap_at (by simp)
theorem rbW_BB (w1 : World) (u d : Opr) : (rbW w1 u d).heap[w1.heap.size + 1 + 1 + 1 + 1]? = some (.cells #[.slice none 0 0, .slice (some ⟨w1.heap.size + 1 + 1 + 1, 0, none⟩) 1 1, .slice none 0 0] 42 (0, 0)) := by
  unfold rbW
  rw [Below.heap_alloc _ _ _ (by simp), Below.heap_alloc _ _ _ (by simp), Below.heap_alloc _ _ _ (by simp)]
  exact heap_at (by simp)
theorem rbW_f0 (w1 : World) (u d : Opr) : (rbW w1 u d).cell? ⟨w1.heap.size + 1 + 1 + 1 + 1 + 1, 0, none⟩ = some (.slice (some ⟨w1.heap.size + 1, 0, none⟩) 3 3) := by unfold rbW; go_simp
theorem rbW_f1 (w1 : World) (u d : Opr) : (rbW w1 u d).cell? ⟨w1.heap.size + 1 + 1 + 1 + 1 + 1, 1, none⟩ = some (.slice (some ⟨w1.heap.size + 1 + 1 + 1 + 1, 0, none⟩) 1 1) := by unfold rbW; go_simp
theorem rbW_b0 (w1 : World) (u d : Opr) : (rbW w1 u d).cell? ⟨w1.heap.size + 1 + 1 + 1 + 1, 0, none⟩ = some (.slice none 0 0) := by unfold rbW; go_simp
theorem rbW_b1 (w1 : World) (u d : Opr) : (rbW w1 u d).cell? ⟨w1.heap.size + 1 + 1 + 1 + 1, 1, none⟩ = some (.slice (some ⟨w1.heap.size + 1 + 1 + 1, 0, none⟩) 1 1) := by unfold rbW; go_simp
theorem rbW_b2 (w1 : World) (u d : Opr) : (rbW w1 u d).cell? ⟨w1.heap.size + 1 + 1 + 1 + 1, 2, none⟩ = some (.slice none 0 0) := by unfold rbW; go_simp
theorem rbW_x0 (w1 : World) (u d : Opr) : (rbW w1 u d).cell? ⟨w1.heap.size + 1 + 1 + 1 + 1 + 1 + 1 + 1, 0, none⟩ = some (.int .i64 0) := by unfold rbW; go_simp
theorem rbW_x1 (w1 : World) (u d : Opr) : (rbW w1 u d).cell? ⟨w1.heap.size + 1 + 1 + 1 + 1 + 1 + 1 + 1, 1, none⟩ = some (.slice (some ⟨w1.heap.size + 1 + 1 + 1 + 1 + 1 + 1, 0, none⟩) 2 2) := by unfold rbW; go_simp
theorem rbW_x2 (w1 : World) (u d : Opr) : (rbW w1 u d).cell? ⟨w1.heap.size + 1 + 1 + 1 + 1 + 1 + 1 + 1, 2, none⟩ = some (.slice none 0 0) := by unfold rbW; go_simp
theorem rbW_m0 (w1 : World) (u d : Opr) : (rbW w1 u d).cell? ⟨w1.heap.size, 0, none⟩ = some (.int .i64 10) := by unfold rbW; go_simp
theorem rbW_m1 (w1 : World) (u d : Opr) : (rbW w1 u d).cell? ⟨w1.heap.size, 1, none⟩ = some (.int .i64 10) := by unfold rbW; go_simp
theorem rbW_v0 (w1 : World) (u d : Opr) : (rbW w1 u d).cell? ⟨w1.heap.size + 1, 0, none⟩ = some (.int .i64 0) := by unfold rbW; go_simp
theorem rbW_v1 (w1 : World) (u d : Opr) : (rbW w1 u d).cell? ⟨w1.heap.size + 1, 1, none⟩ = some (.int .i64 0) := by unfold rbW; go_simp
theorem rbW_v2 (w1 : World) (u d : Opr) : (rbW w1 u d).cell? ⟨w1.heap.size + 1, 2, none⟩ = some (.int .i64 1) := by unfold rbW; go_simp
theorem rbW_p0 (w1 : World) (u d : Opr) : (rbW w1 u d).cell? ⟨w1.heap.size + 1 + 1, 0, none⟩ = some (.int .i64 2) := by unfold rbW; go_simp
theorem rbW_p1 (w1 : World) (u d : Opr) : (rbW w1 u d).cell? ⟨w1.heap.size + 1 + 1, 1, none⟩ = some (.int .i64 0) := by unfold rbW; go_simp
theorem rbW_p2 (w1 : World) (u d : Opr) : (rbW w1 u d).cell? ⟨w1.heap.size + 1 + 1, 2, none⟩ = some (.bool false) := by unfold rbW; go_simp
theorem rbW_p3 (w1 : World) (u d : Opr) : (rbW w1 u d).cell? ⟨w1.heap.size + 1 + 1, 3, none⟩ = some (.int .i64 1) := by unfold rbW; go_simp
theorem rbW_p4 (w1 : World) (u d : Opr) : (rbW w1 u d).cell? ⟨w1.heap.size + 1 + 1, 4, none⟩ = some (.int .i64 0) := by unfold rbW; go_simp
theorem rbW_p5 (w1 : World) (u d : Opr) : (rbW w1 u d).cell? ⟨w1.heap.size + 1 + 1, 5, none⟩ = some (.int .i64 2) := by unfold rbW; go_simp
theorem rbW_p6 (w1 : World) (u d : Opr) : (rbW w1 u d).cell? ⟨w1.heap.size + 1 + 1, 6, none⟩ = some (.int .i64 2) := by unfold rbW; go_simp
theorem rbW_p7 (w1 : World) (u d : Opr) : (rbW w1 u d).cell? ⟨w1.heap.size + 1 + 1, 7, none⟩ = some (.bool false) := by unfold rbW; go_simp
theorem rbW_p8 (w1 : World) (u d : Opr) : (rbW w1 u d).cell? ⟨w1.heap.size + 1 + 1, 8, none⟩ = some (.int .i64 1) := by unfold rbW; go_simp
theorem rbW_p9 (w1 : World) (u d : Opr) : (rbW w1 u d).cell? ⟨w1.heap.size + 1 + 1, 9, none⟩ = some (.int .i64 0) := by unfold rbW; go_simp
theorem rbW_s0 (w1 : World) (u d : Opr) : (rbW w1 u d).cell? ⟨w1.heap.size + 1 + 1 + 1 + 1 + 1 + 1, 0, none⟩ = some (.int .i64 u.kind) := by unfold rbW; go_simp
theorem rbW_s1 (w1 : World) (u d : Opr) : (rbW w1 u d).cell? ⟨w1.heap.size + 1 + 1 + 1 + 1 + 1 + 1, 1, none⟩ = some (.int .i64 u.value) := by unfold rbW; go_simp
theorem rbW_s2 (w1 : World) (u d : Opr) : (rbW w1 u d).cell? ⟨w1.heap.size + 1 + 1 + 1 + 1 + 1 + 1, 2, none⟩ = some (.bool u.late) := by unfold rbW; go_simp
theorem rbW_s3 (w1 : World) (u d : Opr) : (rbW w1 u d).cell? ⟨w1.heap.size + 1 + 1 + 1 + 1 + 1 + 1, 3, none⟩ = some (.int .i64 u.limit) := by unfold rbW; go_simp
theorem rbW_s4 (w1 : World) (u d : Opr) : (rbW w1 u d).cell? ⟨w1.heap.size + 1 + 1 + 1 + 1 + 1 + 1, 4, none⟩ = some (.int .i64 u.n) := by unfold rbW; go_simp
theorem rbW_s5 (w1 : World) (u d : Opr) : (rbW w1 u d).cell? ⟨w1.heap.size + 1 + 1 + 1 + 1 + 1 + 1, 5, none⟩ = some (.int .i64 d.kind) := by unfold rbW; go_simp
theorem rbW_s6 (w1 : World) (u d : Opr) : (rbW w1 u d).cell? ⟨w1.heap.size + 1 + 1 + 1 + 1 + 1 + 1, 6, none⟩ = some (.int .i64 d.value) := by unfold rbW; go_simp
theorem rbW_s7 (w1 : World) (u d : Opr) : (rbW w1 u d).cell? ⟨w1.heap.size + 1 + 1 + 1 + 1 + 1 + 1, 7, none⟩ = some (.bool d.late) := by unfold rbW; go_simp
theorem rbW_s8 (w1 : World) (u d : Opr) : (rbW w1 u d).cell? ⟨w1.heap.size + 1 + 1 + 1 + 1 + 1 + 1, 8, none⟩ = some (.int .i64 d.limit) := by unfold rbW; go_simp
theorem rbW_s9 (w1 : World) (u d : Opr) : (rbW w1 u d).cell? ⟨w1.heap.size + 1 + 1 + 1 + 1 + 1 + 1, 9, none⟩ = some (.int .i64 d.n) := by unfold rbW; go_simp

theorem infoI : (Try.prog.info? 30).map (fun i => (i.zero, i.size, i.bytes)) = some (some (.agg #[.int .i64 0, .slice none 0 0, .slice none 0 0]), 3, 56) := by kernel_rfl

set_option maxHeartbeats 16000000 in
theorem reuseBad_walk (wh n : Int) (w : World) (u0 : -9223372036854775808 ≤ wh) (u0' : wh ≤ 9223372036854775807) (u2 : -9223372036854775808 ≤ n) (u2' : n ≤ 9223372036854775807) :
    Calls Try.prog 7 #[.int .i64 wh, .int .i64 n] w fun e w' => e = .returned (.bool true) ∧ Below w.heap.size w w' := by
  obtain ⟨q0, q0'⟩ := pickedOf_bd wh 5 (by omega)
  obtain ⟨r0, r0'⟩ := pickedOf_bd n 9 (by omega)
  have pm : pickedOf 8 9 = 8 := by decide
  obtain ⟨i30, hi30, hz30, hz301, hz302⟩ := info_parts infoI
  go_enter Try.func7, Try.ntmps7
  go_wp2_with fail
  refine (machine_any 8 8 _ (by omega) (by omega) (by omega) (by omega)).mono ?_
  rintro e w1 ⟨rfl, hb1⟩
  rw [pm]
  have hz1 := hb1.size
  go_wp2_with fail
  refine (picked_any _ _ _ (by omega) (by omega) (by omega) (by omega)).mono ?_
  rintro e w' ⟨rfl, rfl⟩
  generalize pickedOf wh 5 = q at *
  go_upto_block 0 with fail
  go_cut [8] (fun want wx => ∃ (u d : Opr) (r : Int), wx.heap = (rbW w1 u d).heap ∧ Below w1.heap.size w1 wx ∧ want = .int .i64 r ∧ shapeErr (rbF u d) 10 10 = r)
  case first =>
    have h5 : q = 0 ∨ q = 1 ∨ q = 2 ∨ q = 3 ∨ q = 4 := by omega
    rcases h5 with rfl | rfl | rfl | rfl | rfl
    · go_wp2
      go_meet
      exact ⟨⟨1, 0, false, 1, 0⟩, ⟨2, 1, true, 5, 0⟩, 0, rfl, rbW_below w1 ⟨1, 0, false, 1, 0⟩ ⟨2, 1, true, 5, 0⟩, rfl, rbF0⟩
    · have hwr : IntKind.i64.wrap (2 + pickedOf n 9) = 2 + pickedOf n 9 := by rw [IntKind.wrap_i64]; omega
      go_wp2_with fail
      go_region_with (go_at_call 10; refine (picked_any _ _ _ (by omega) (by omega) (by omega) (by omega)).mono ?_; rintro e w' ⟨rfl, rfl⟩)
      all_goals go_wp2
      all_goals go_meet
      all_goals exact ⟨⟨1, 0, false, 1, 0⟩, ⟨2, 1, true, 5, 2 + pickedOf n 9⟩, 6, rfl, (rbW_below w1 ⟨1, 0, false, 1, 0⟩ ⟨2, 1, true, 5, 2 + pickedOf n 9⟩).drew, rfl, rbF1 _ (by omega) (by omega)⟩
    · go_wp2
      go_meet
      exact ⟨⟨1, 0, true, 1, 0⟩, ⟨2, 1, true, 5, 0⟩, 4, rfl, rbW_below w1 ⟨1, 0, true, 1, 0⟩ ⟨2, 1, true, 5, 0⟩, rfl, rbF2⟩
    · go_wp2
      go_meet
      exact ⟨⟨1, 2, false, 1, 0⟩, ⟨2, 1, true, 5, 0⟩, 17, rfl, rbW_below w1 ⟨1, 2, false, 1, 0⟩ ⟨2, 1, true, 5, 0⟩, rfl, rbF3⟩
    · go_wp2
      go_meet
      exact ⟨⟨1, 0, false, 1, 0⟩, ⟨2, 1, false, 5, 0⟩, 4, rfl, rbW_below w1 ⟨1, 0, false, 1, 0⟩ ⟨2, 1, false, 5, 0⟩, rfl, rbF4⟩
  case rest =>
    obtain ⟨u, d, r, hh, hbW, rfl, hr⟩ := hcut
    obtain ⟨wv, hwv⟩ : ∃ wv, wv = wc := ⟨_, rfl⟩
    subst hwv
    have keepc : ∀ x : Addr, wv.cell? x = (rbW w1 u d).cell? x := fun x => World.cell?_of_block (by rw [hh])
    have zW : wv.heap.size = w1.heap.size + 1 + 1 + 1 + 1 + 1 + 1 + 1 + 1 := by rw [hh]; exact rbW_size w1 u d
    have hIB := rbW_IB w1 u d
    have hBB := rbW_BB w1 u d
    rw [← hh] at hIB hBB
    have own : wv.ownsRow w1.heap.size 30 3 (.slice (some ⟨w1.heap.size + 1 + 1 + 1, 0, none⟩) 1 1) 1 [.int .i64 0, .slice (some ⟨w1.heap.size + 1 + 1, 0, none⟩) 2 2, .slice none 0 0] := ⟨rfl, Or.inr ⟨w1.heap.size + 1 + 1 + 1, 1, _, rfl, by omega, hIB, by omega, by unfold maxLen; omega, rfl, rfl⟩⟩
    have zb : wv.frozen? ⟨w1.heap.size + 1 + 1 + 1 + 1, 1, none⟩ = false := by simp [World.frozen?, hBB]
    have f1 := (keepc _).trans (rbW_f1 w1 u d)
    have b1 := (keepc _).trans (rbW_b1 w1 u d)
    have x0 := (keepc _).trans (rbW_x0 w1 u d)
    have x1 := (keepc _).trans (rbW_x1 w1 u d)
    have x2 := (keepc _).trans (rbW_x2 w1 u d)
    have l7 : w1.heap.size + 1 + 1 + 1 + 1 + 1 + 1 + 1 < wv.heap.size := by omega
    have l5 : w1.heap.size + 1 + 1 + 1 + 1 + 1 < wv.heap.size := by omega
    have l4 : w1.heap.size + 1 + 1 + 1 + 1 < wv.heap.size := by omega
    have HK : Hid (∀ x : Addr, wv.cell? x = (rbW w1 u d).cell? x) := keepc
    have HZ : Hid (wv.heap.size = w1.heap.size + 1 + 1 + 1 + 1 + 1 + 1 + 1 + 1) := zW
    have HH : Hid (wv.heap = (rbW w1 u d).heap) := hh
    have HR : Hid (shapeErr (rbF u d) 10 10 = r) := hr
    clear keepc zW hh hIB hBB hr
    have LF := old_cell (w1.heap.size + 1 + 1 + 1 + 1 + 1)
    have LB := old_cell (w1.heap.size + 1 + 1 + 1 + 1)
    have LX := old_cell (w1.heap.size + 1 + 1 + 1 + 1 + 1 + 1 + 1)
    have nB : some (w1.heap.size + 1 + 1 + 1 + 1) ≠ Value.ownBlock (.slice (some ⟨w1.heap.size + 1 + 1 + 1, 0, none⟩) 1 1) := by simp [Value.ownBlock]; try omega
    have nF : some (w1.heap.size + 1 + 1 + 1 + 1 + 1) ≠ Value.ownBlock (.slice (some ⟨w1.heap.size + 1 + 1 + 1, 0, none⟩) 1 1) := by simp [Value.ownBlock]; try omega
    have oA := (own.alloc (.cells #[.int .i64 0, .slice (some ⟨w1.heap.size + 1 + 1 + 1 + 1 + 1 + 1, 0, none⟩) 2 2, .slice none 0 0] 30)).drew
    have cB : (wv.alloc (.cells #[.int .i64 0, .slice (some ⟨w1.heap.size + 1 + 1 + 1 + 1 + 1 + 1, 0, none⟩) 2 2, .slice none 0 0] 30)).drew.cell? ⟨w1.heap.size + 1 + 1 + 1 + 1, 1, none⟩ = some (.slice (some ⟨w1.heap.size + 1 + 1 + 1, 0, none⟩) 1 1) := (LB _ _ _ l4).trans b1
    have cF : (wv.alloc (.cells #[.int .i64 0, .slice (some ⟨w1.heap.size + 1 + 1 + 1 + 1 + 1 + 1, 0, none⟩) 2 2, .slice none 0 0] 30)).drew.cell? ⟨w1.heap.size + 1 + 1 + 1 + 1 + 1, 1, none⟩ = some (.slice (some ⟨w1.heap.size + 1 + 1 + 1 + 1, 0, none⟩) 1 1) := (LF _ _ _ l5).trans f1
    have cZ : (wv.alloc (.cells #[.int .i64 0, .slice (some ⟨w1.heap.size + 1 + 1 + 1 + 1 + 1 + 1, 0, none⟩) 2 2, .slice none 0 0] 30)).drew.frozen? ⟨w1.heap.size + 1 + 1 + 1 + 1, 1, none⟩ = false := (frozen?_alloc_cells _ _ _ _).trans zb
    have lB : (w1.heap.size + 1 + 1 + 1 + 1) < (wv.alloc (.cells #[.int .i64 0, .slice (some ⟨w1.heap.size + 1 + 1 + 1 + 1 + 1 + 1, 0, none⟩) 2 2, .slice none 0 0] 30)).drew.heap.size := by simp; omega
    have lF : (w1.heap.size + 1 + 1 + 1 + 1 + 1) < (wv.alloc (.cells #[.int .i64 0, .slice (some ⟨w1.heap.size + 1 + 1 + 1 + 1 + 1 + 1, 0, none⟩) 2 2, .slice none 0 0] 30)).drew.heap.size := by simp; omega
    have HN : Hid (∀ j u, ([.int .i64 0, .slice (some ⟨w1.heap.size + 1 + 1 + 1 + 1 + 1 + 1, 0, none⟩) 2 2, .slice none 0 0] : List Value)[j]? = some u → (wv.alloc (.cells #[.int .i64 0, .slice (some ⟨w1.heap.size + 1 + 1 + 1 + 1 + 1 + 1, 0, none⟩) 2 2, .slice none 0 0] 30)).drew.cell? ((⟨wv.heap.size, 0, none⟩ : Addr).add j) = some u) := World.news_of_block (cs := #[.int .i64 0, .slice (some ⟨w1.heap.size + 1 + 1 + 1 + 1 + 1 + 1, 0, none⟩) 2 2, .slice none 0 0]) (t := 30) (fr := (0, 0)) (heap_alloc_new wv _)
    have h1c : ∀ u ∈ ([.int .i64 0, .slice (some ⟨w1.heap.size + 1 + 1 + 1 + 1 + 1 + 1, 0, none⟩) 2 2, .slice none 0 0] : List Value), u.oneCell' = true := by intro u hu; simp at hu; rcases hu with rfl | rfl | rfl <;> rfl
    go_upto_region 18 with fail
    go_cut [61] (fun v wx => ∃ g cap, wx.ownsRow w1.heap.size 30 3 (.slice (some ⟨g, 0, none⟩) 2 cap) 2 ([.int .i64 0, .slice (some ⟨w1.heap.size + 1 + 1, 0, none⟩) 2 2, .slice none 0 0] ++ [.int .i64 0, .slice (some ⟨w1.heap.size + 1 + 1 + 1 + 1 + 1 + 1, 0, none⟩) 2 2, .slice none 0 0]) ∧ wx.cell? ⟨w1.heap.size + 1 + 1 + 1 + 1, 1, none⟩ = some (.slice (some ⟨g, 0, none⟩) 2 cap) ∧ (∀ b o, b < wv.heap.size → b ≠ w1.heap.size + 1 + 1 + 1 → (b ≠ w1.heap.size + 1 + 1 + 1 + 1 ∨ o ≠ 1) → wx.cell? ⟨b, o, none⟩ = wv.cell? ⟨b, o, none⟩) ∧ Below w1.heap.size w1 wx ∧ wv.heap.size < wx.heap.size)
    case first =>
      go_region_law ((refine step_append_lies _ (by rfl) _ _ _ (by rfl) (w1.heap.size) 30 i30 _ 3 56 Try.underlying39 hi30 hz30 hz301 hz302 rfl (by omega) (.slice (some ⟨w1.heap.size + 1 + 1 + 1, 0, none⟩) 1 1) 1 [.int .i64 0, .slice (some ⟨w1.heap.size + 1 + 1, 0, none⟩) 2 2, .slice none 0 0] (by rfl) oA ⟨wv.heap.size, 0, none⟩ 1 1 [.int .i64 0, .slice (some ⟨w1.heap.size + 1 + 1 + 1 + 1 + 1 + 1, 0, none⟩) 2 2, .slice none 0 0] (by rfl) (by rfl) HN.out h1c (by omega) (by unfold maxLen; omega) (by omega) (by simp; omega) (wv.heap.size + 1) (by simp) ?_; intro gg cap wb hown1 hgrow hat hlt; have b1' := (hgrow.cell_far _ lB nB).trans cB; have zb' := (hgrow.frozen_far _ lB nB).trans cZ; have f1' := (hgrow.cell_far _ lF nF).trans cF))
      all_goals go_wp2
      all_goals go_meet
      all_goals exact ⟨_, _, rb_close hown1 hgrow hat (by omega) l4 (by omega) (by omega) (by omega) hbW b1'⟩
    case rest =>
      obtain ⟨g, cap, hown, hBI, hkeep, hbx, hzx⟩ := hcut
      clear f1 b1 x0 x1 x2 zb own oA cB cF cZ LF LB LX
      have f0 : wc.cell? ⟨w1.heap.size + 1 + 1 + 1 + 1 + 1, 0, none⟩ = some (.slice (some ⟨w1.heap.size + 1, 0, none⟩) 3 3) := (hkeep _ _ (by rw [HZ.out]; omega) (by omega) (by omega)).trans ((HK.out _).trans (rbW_f0 w1 u d))
      have f1 : wc.cell? ⟨w1.heap.size + 1 + 1 + 1 + 1 + 1, 1, none⟩ = some (.slice (some ⟨w1.heap.size + 1 + 1 + 1 + 1, 0, none⟩) 1 1) := (hkeep _ _ (by rw [HZ.out]; omega) (by omega) (by omega)).trans ((HK.out _).trans (rbW_f1 w1 u d))
      have b0 : wc.cell? ⟨w1.heap.size + 1 + 1 + 1 + 1, 0, none⟩ = some (.slice none 0 0) := (hkeep _ _ (by rw [HZ.out]; omega) (by omega) (by omega)).trans ((HK.out _).trans (rbW_b0 w1 u d))
      have b2 : wc.cell? ⟨w1.heap.size + 1 + 1 + 1 + 1, 2, none⟩ = some (.slice none 0 0) := (hkeep _ _ (by rw [HZ.out]; omega) (by omega) (by omega)).trans ((HK.out _).trans (rbW_b2 w1 u d))
      have m0 : wc.cell? ⟨w1.heap.size, 0, none⟩ = some (.int .i64 10) := (hkeep _ _ (by rw [HZ.out]; omega) (by omega) (by omega)).trans ((HK.out _).trans (rbW_m0 w1 u d))
      have m1 : wc.cell? ⟨w1.heap.size, 1, none⟩ = some (.int .i64 10) := (hkeep _ _ (by rw [HZ.out]; omega) (by omega) (by omega)).trans ((HK.out _).trans (rbW_m1 w1 u d))
      have v0 : wc.cell? ⟨w1.heap.size + 1, 0, none⟩ = some (.int .i64 0) := (hkeep _ _ (by rw [HZ.out]; omega) (by omega) (by omega)).trans ((HK.out _).trans (rbW_v0 w1 u d))
      have v1 : wc.cell? ⟨w1.heap.size + 1, 1, none⟩ = some (.int .i64 0) := (hkeep _ _ (by rw [HZ.out]; omega) (by omega) (by omega)).trans ((HK.out _).trans (rbW_v1 w1 u d))
      have v2 : wc.cell? ⟨w1.heap.size + 1, 2, none⟩ = some (.int .i64 1) := (hkeep _ _ (by rw [HZ.out]; omega) (by omega) (by omega)).trans ((HK.out _).trans (rbW_v2 w1 u d))
      have p0 : wc.cell? ⟨w1.heap.size + 1 + 1, 0, none⟩ = some (.int .i64 2) := (hkeep _ _ (by rw [HZ.out]; omega) (by omega) (by omega)).trans ((HK.out _).trans (rbW_p0 w1 u d))
      have p1 : wc.cell? ⟨w1.heap.size + 1 + 1, 1, none⟩ = some (.int .i64 0) := (hkeep _ _ (by rw [HZ.out]; omega) (by omega) (by omega)).trans ((HK.out _).trans (rbW_p1 w1 u d))
      have p2 : wc.cell? ⟨w1.heap.size + 1 + 1, 2, none⟩ = some (.bool false) := (hkeep _ _ (by rw [HZ.out]; omega) (by omega) (by omega)).trans ((HK.out _).trans (rbW_p2 w1 u d))
      have p3 : wc.cell? ⟨w1.heap.size + 1 + 1, 3, none⟩ = some (.int .i64 1) := (hkeep _ _ (by rw [HZ.out]; omega) (by omega) (by omega)).trans ((HK.out _).trans (rbW_p3 w1 u d))
      have p4 : wc.cell? ⟨w1.heap.size + 1 + 1, 4, none⟩ = some (.int .i64 0) := (hkeep _ _ (by rw [HZ.out]; omega) (by omega) (by omega)).trans ((HK.out _).trans (rbW_p4 w1 u d))
      have p5 : wc.cell? ⟨w1.heap.size + 1 + 1, 5, none⟩ = some (.int .i64 2) := (hkeep _ _ (by rw [HZ.out]; omega) (by omega) (by omega)).trans ((HK.out _).trans (rbW_p5 w1 u d))
      have p6 : wc.cell? ⟨w1.heap.size + 1 + 1, 6, none⟩ = some (.int .i64 2) := (hkeep _ _ (by rw [HZ.out]; omega) (by omega) (by omega)).trans ((HK.out _).trans (rbW_p6 w1 u d))
      have p7 : wc.cell? ⟨w1.heap.size + 1 + 1, 7, none⟩ = some (.bool false) := (hkeep _ _ (by rw [HZ.out]; omega) (by omega) (by omega)).trans ((HK.out _).trans (rbW_p7 w1 u d))
      have p8 : wc.cell? ⟨w1.heap.size + 1 + 1, 8, none⟩ = some (.int .i64 1) := (hkeep _ _ (by rw [HZ.out]; omega) (by omega) (by omega)).trans ((HK.out _).trans (rbW_p8 w1 u d))
      have p9 : wc.cell? ⟨w1.heap.size + 1 + 1, 9, none⟩ = some (.int .i64 0) := (hkeep _ _ (by rw [HZ.out]; omega) (by omega) (by omega)).trans ((HK.out _).trans (rbW_p9 w1 u d))
      have s0 : wc.cell? ⟨w1.heap.size + 1 + 1 + 1 + 1 + 1 + 1, 0, none⟩ = some (.int .i64 u.kind) := (hkeep _ _ (by rw [HZ.out]; omega) (by omega) (by omega)).trans ((HK.out _).trans (rbW_s0 w1 u d))
      have s1 : wc.cell? ⟨w1.heap.size + 1 + 1 + 1 + 1 + 1 + 1, 1, none⟩ = some (.int .i64 u.value) := (hkeep _ _ (by rw [HZ.out]; omega) (by omega) (by omega)).trans ((HK.out _).trans (rbW_s1 w1 u d))
      have s2 : wc.cell? ⟨w1.heap.size + 1 + 1 + 1 + 1 + 1 + 1, 2, none⟩ = some (.bool u.late) := (hkeep _ _ (by rw [HZ.out]; omega) (by omega) (by omega)).trans ((HK.out _).trans (rbW_s2 w1 u d))
      have s3 : wc.cell? ⟨w1.heap.size + 1 + 1 + 1 + 1 + 1 + 1, 3, none⟩ = some (.int .i64 u.limit) := (hkeep _ _ (by rw [HZ.out]; omega) (by omega) (by omega)).trans ((HK.out _).trans (rbW_s3 w1 u d))
      have s4 : wc.cell? ⟨w1.heap.size + 1 + 1 + 1 + 1 + 1 + 1, 4, none⟩ = some (.int .i64 u.n) := (hkeep _ _ (by rw [HZ.out]; omega) (by omega) (by omega)).trans ((HK.out _).trans (rbW_s4 w1 u d))
      have s5 : wc.cell? ⟨w1.heap.size + 1 + 1 + 1 + 1 + 1 + 1, 5, none⟩ = some (.int .i64 d.kind) := (hkeep _ _ (by rw [HZ.out]; omega) (by omega) (by omega)).trans ((HK.out _).trans (rbW_s5 w1 u d))
      have s6 : wc.cell? ⟨w1.heap.size + 1 + 1 + 1 + 1 + 1 + 1, 6, none⟩ = some (.int .i64 d.value) := (hkeep _ _ (by rw [HZ.out]; omega) (by omega) (by omega)).trans ((HK.out _).trans (rbW_s6 w1 u d))
      have s7 : wc.cell? ⟨w1.heap.size + 1 + 1 + 1 + 1 + 1 + 1, 7, none⟩ = some (.bool d.late) := (hkeep _ _ (by rw [HZ.out]; omega) (by omega) (by omega)).trans ((HK.out _).trans (rbW_s7 w1 u d))
      have s8 : wc.cell? ⟨w1.heap.size + 1 + 1 + 1 + 1 + 1 + 1, 8, none⟩ = some (.int .i64 d.limit) := (hkeep _ _ (by rw [HZ.out]; omega) (by omega) (by omega)).trans ((HK.out _).trans (rbW_s8 w1 u d))
      have s9 : wc.cell? ⟨w1.heap.size + 1 + 1 + 1 + 1 + 1 + 1, 9, none⟩ = some (.int .i64 d.n) := (hkeep _ _ (by rw [HZ.out]; omega) (by omega) (by omega)).trans ((HK.out _).trans (rbW_s9 w1 u d))
      have y0 := own_cell hown 0 (by simp)
      have y1 := own_cell hown 1 (by simp)
      have y2 := own_cell hown 2 (by simp)
      have y3 := own_cell hown 3 (by simp)
      have y4 := own_cell hown 4 (by simp)
      have y5 := own_cell hown 5 (by simp)
      simp at y0 y1 y2 y3 y4 y5
      have hv : SlOf wc 1 RInt (.slice (some ⟨w1.heap.size + 1, 0, none⟩) 3 3) (rbF u d).values := SlOf_three [.int .i64 0] [.int .i64 0] [.int .i64 1] rfl rfl rfl rfl rfl rfl (cells1 v0) (cells1 v1) (cells1 v2)
      have hO0 : SlOf wc 5 ROpr (.slice (some ⟨w1.heap.size + 1 + 1, 0, none⟩) 2 2) [⟨2, 0, false, 1, 0⟩, ⟨2, 2, false, 1, 0⟩] := SlOf_two [.int .i64 2, .int .i64 0, .bool false, .int .i64 1, .int .i64 0] [.int .i64 2, .int .i64 2, .bool false, .int .i64 1, .int .i64 0] rfl rfl rfl rfl (cells5 p0 p1 p2 p3 p4) (cells5 p5 p6 p7 p8 p9)
      have hO1 : SlOf wc 5 ROpr (.slice (some ⟨w1.heap.size + 1 + 1 + 1 + 1 + 1 + 1, 0, none⟩) 2 2) [u, d] := SlOf_two [.int .i64 u.kind, .int .i64 u.value, .bool u.late, .int .i64 u.limit, .int .i64 u.n] [.int .i64 d.kind, .int .i64 d.value, .bool d.late, .int .i64 d.limit, .int .i64 d.n] rfl rfl rfl rfl (cells5 s0 s1 s2 s3 s4) (cells5 s5 s6 s7 s8 s9)
      have hI : SlOf wc 3 (RIns wc) (.slice (some ⟨g, 0, none⟩) 2 cap) [⟨0, [⟨2, 0, false, 1, 0⟩, ⟨2, 2, false, 1, 0⟩], []⟩, ⟨0, [u, d], []⟩] := SlOf_two [.int .i64 0, .slice (some ⟨w1.heap.size + 1 + 1, 0, none⟩) 2 2, .slice none 0 0] [.int .i64 0, .slice (some ⟨w1.heap.size + 1 + 1 + 1 + 1 + 1 + 1, 0, none⟩) 2 2, .slice none 0 0] rfl rfl ⟨_, _, rfl, hO0, SlOf_nil _ _ _ _ _⟩ ⟨_, _, rfl, hO1, SlOf_nil _ _ _ _ _⟩ (cells3 y0 y1 y2) (cells3 y3 y4 y5)
      have hB : SlOf wc 3 (RBlk wc) (.slice (some ⟨w1.heap.size + 1 + 1 + 1 + 1, 0, none⟩) 1 1) (rbF u d).blocks := SlOf_one [.slice none 0 0, .slice (some ⟨g, 0, none⟩) 2 cap, .slice none 0 0] rfl ⟨_, _, _, rfl, SlOf_nil _ _ _ _ _, hI, SlOf_nil _ _ _ _ _⟩ (cells3 b0 hBI b2)
      clear y0 y1 y2 y3 y4 y5 hkeep hBI b0 b2 v0 v1 v2 p0 p1 p2 p3 p4 p5 p6 p7 p8 p9 s0 s1 s2 s3 s4 s5 s6 s7 s8 s9
      go_wp2_with fail
      refine (check_is (rbF u d) 10 10 _ _ _ r HR.out hv hB).mono ?_
      rintro e w2 ⟨rfl, hb2⟩
      go_wp2
      go_ret
      exact ⟨by simp, hb1.trans ((hbx.mono hz1).trans (hb2.mono (by have := hbx.size; omega)))⟩
end Go.Proofs.Ytnghhhlcifpiaab
