/-
  The contract of the statements' own 'ring': what it has made reads as such a function; it writes to nothing that was there.
-/
import Derived.Test.YtengmgdnpojfjaaRingS
import Derived.Deep.DeepCutAuto
import Derived.Deep.CutBlock
namespace Go.Proofs.Ytengmgdnpojfjaa
open Go.RowKit
set_option linter.unusedVariables false

set_option maxHeartbeats 8000000 in
theorem ring_any (n : Nat) (w : World) (hn : n ≤ 1000) :
    Calls Try.prog 18 #[.int .i64 n] w fun e w' => ∃ (vv vi : Value) (ob : Nat → Nat) (eb ab : Nat) (wr : World), e = .returned (.agg #[vv, .slice (some ⟨w.heap.size + 1 + 1 + 1 + 1 + 1 + 1 + 1 + 1 + 1 + 1 + 1 + 1 + 1 + 1 + 1 + 1 + 1 + 1, 0, none⟩) 4 4]) ∧ RingSt w.heap.size (n + 2) n vv vi ob (ringW w) wr ∧ RingFin w.heap.size n eb ab wr w' ∧ Below w.heap.size w w' := by
  obtain ⟨i3, hi3, hz3, hz31, hz32⟩ := info_parts infoI3
  obtain ⟨i30, hi30, hz30, hz301, hz302⟩ := info_parts infoIn
  go_enter Try.func18, Try.ntmps18
  go_wp2_with (first
        | (go_at_call 14; refine (def_any _ _).mono ?_; rintro e w' ⟨rfl, rfl⟩)
        | (go_at_call 15; refine (use_any _ _).mono ?_; rintro e w' ⟨rfl, rfl⟩)
        | (go_at_call 13; refine (op_any _ _ _ _ _).mono ?_; rintro e w' ⟨rfl, rfl⟩))
  go_loopw [4, 5] (fun v t wr => ∃ (i : Nat) (vv vi : Value) (ob : Nat → Nat), i ≤ n ∧ v = .int .i64 ((i : Int) + 1) ∧ t = .int .i64 i ∧ RingSt w.heap.size (i + 2) i vv vi ob (ringW w) wr ∧ Below (w.heap.size + 1) (w.alloc (.cells #[.slice none 0 0, .slice none 0 0] 25)) wr) (fun _ t _ => n - (intOf t).toNat)
  case atStart => exact ⟨0, _, _, _, Nat.zero_le _, rfl, rfl, ringSt0 w, ringW_below w⟩
  case round =>
    obtain ⟨i, vv, vi, ob, hi, rfl, rfl, hS, hbr⟩ := hrel
    have hz0 := hS.r2.lt
    by_cases hlt : i < n
    · have o1 := hS.ov
      have c20 : wr.cell? ⟨w.heap.size + 1 + 1 + 1 + 1 + 1 + 1 + 1 + 1 + 1 + 1 + 1 + 1 + 1 + 1 + 1 + 1 + 1 + 1 + 1, 0, none⟩ = some vv := hS.r2.cell (i := 0) (by omega)
      have oA := o1.alloc (.cells #[.int .i64 0] 3)
      go_wp2_with (at_builtin; go_must (refine wpList_append_lies _ rfl _ _ 22 rfl (w.heap.size + 1) 3 i3 (.int .i64 0) 1 8 Try.underlying22 hi3 hz3 hz31 hz32 rfl (by omega) vv (i + 2) _ (by rfl) oA ⟨wr.heap.size, 0, none⟩ 1 1 [.int .i64 0] (by rfl) (by rfl) ?c1 ?c2 (by omega) ?c3 ?c4 ?c5 (wr.heap.size + 1) ?c6 ?_))
      case c1 => exact newsL rfl
      case c2 => intro u hu; simp at hu; subst hu; rfl
      case c3 => unfold maxLen; omega
      case c4 => omega
      case c5 => simp; omega
      case c6 => simp
      intro g cap wb hown hgrow hat hgl
      obtain ⟨q2, hS1⟩ := hS.vals hown hgrow hat
      have hzb := hgrow.size
      simp at hzb
      have f2 := q2.frozen 0
      have x2 : wb.cell? ⟨w.heap.size + 1 + 1 + 1 + 1 + 1 + 1 + 1 + 1 + 1 + 1 + 1 + 1 + 1 + 1 + 1 + 1 + 1 + 1 + 1, 0, none⟩ = some vv := q2.cell (i := 0) (by omega)
      have hbb : Below (w.heap.size + 1) _ wb := (hbr.alloc (by omega) _).grown hgrow (by simp; omega) (fun h hh => by have := own_base o1 hh; omega)
      have hbs : Below (w.heap.size + 1) _ (wb.setCell ⟨w.heap.size + 1 + 1 + 1 + 1 + 1 + 1 + 1 + 1 + 1 + 1 + 1 + 1 + 1 + 1 + 1 + 1 + 1 + 1 + 1, 0, none⟩ (.slice (some ⟨g, 0, none⟩) (i + 2 + 1) cap)) := hbb.setCell (by simp <;> omega) _
      obtain ⟨wc, hwc⟩ : ∃ wc, wc = wb.setCell ⟨w.heap.size + 1 + 1 + 1 + 1 + 1 + 1 + 1 + 1 + 1 + 1 + 1 + 1 + 1 + 1 + 1 + 1 + 1 + 1 + 1, 0, none⟩ (.slice (some ⟨g, 0, none⟩) (i + 2 + 1) cap) := ⟨_, rfl⟩
      have hzc : wc.heap.size = wb.heap.size := by rw [hwc]; simp
      have HC : Hid (wc = wb.setCell ⟨w.heap.size + 1 + 1 + 1 + 1 + 1 + 1 + 1 + 1 + 1 + 1 + 1 + 1 + 1 + 1 + 1 + 1 + 1 + 1 + 1, 0, none⟩ (.slice (some ⟨g, 0, none⟩) (i + 2 + 1) cap)) := hwc
      rw [← hwc] at hS1 hbs
      clear hwc hzc oA hown hgrow c20
      have hz1 := hS1.r2.lt
      go_upto_region 7 with fail
      rw [← HC.out]
      clear q2 f2 x2 hbb HC
      have own := hS1.oi
      have b1 : wc.cell? ⟨w.heap.size + 1 + 1 + 1 + 1 + 1 + 1 + 1 + 1 + 1 + 1 + 1 + 1 + 1 + 1 + 1 + 1 + 1 + 1, 7, none⟩ = some vi := hS1.r1.cell (i := 7) (by omega)
      have zb := hS1.r1.frozen 7
      have f0 : wc.cell? ⟨w.heap.size + 1 + 1 + 1 + 1 + 1 + 1 + 1 + 1 + 1 + 1 + 1 + 1 + 1 + 1 + 1 + 1 + 1 + 1 + 1, 0, none⟩ = some (.slice (some ⟨g, 0, none⟩) (i + 2 + 1) cap) := hS1.r2.cell (i := 0) (by omega)
      have f1 : wc.cell? ⟨w.heap.size + 1 + 1 + 1 + 1 + 1 + 1 + 1 + 1 + 1 + 1 + 1 + 1 + 1 + 1 + 1 + 1 + 1 + 1 + 1, 1, none⟩ = some (.slice (some ⟨w.heap.size + 1 + 1 + 1 + 1 + 1 + 1 + 1 + 1 + 1 + 1 + 1 + 1 + 1 + 1 + 1 + 1 + 1 + 1, 0, none⟩) 4 4) := hS1.r2.cell (i := 1) (by omega)
      have lB := hS1.r1.lt
      have nB : some (w.heap.size + 1 + 1 + 1 + 1 + 1 + 1 + 1 + 1 + 1 + 1 + 1 + 1 + 1 + 1 + 1 + 1 + 1 + 1) ≠ vi.ownBlock := fun e => by have := own_base own e.symm; omega
      have nF : some (w.heap.size + 1 + 1 + 1 + 1 + 1 + 1 + 1 + 1 + 1 + 1 + 1 + 1 + 1 + 1 + 1 + 1 + 1 + 1 + 1) ≠ vi.ownBlock := fun e => by have := own_base own e.symm; omega
      have nO : vi.ownBlock ≠ some (wc.heap.size + 1 + 1) := fun e => by have := own_base own e; omega
      have nV : (Value.slice (some ⟨g, 0, none⟩) (i + 2 + 1) cap).ownBlock ≠ some (wc.heap.size + 1 + 1) := fun e => by have := own_base hS1.ov e; omega
      have nOb : ∀ k, k < i → ob k ≠ wc.heap.size + 1 + 1 := fun k hk e => by have := (hS1.obs k hk).lt; omega
      obtain ⟨wn, hwn⟩ : ∃ wn, wn = (((((wc.alloc (.cells #[.int .i64 1, .int .i64 ((i : Int) + 1), .bool false, .int .i64 1, .int .i64 0] 43)).alloc (.cells #[.int .i64 2, .int .i64 ((i : Int) + 2), .bool true, .int .i64 1, .int .i64 0] 43)).alloc (.cells #[.int .i64 1, .int .i64 ((i : Int) + 1), .bool false, .int .i64 1, .int .i64 0, .int .i64 2, .int .i64 ((i : Int) + 2), .bool true, .int .i64 1, .int .i64 0] 43)).alloc (.cells #[.int .i64 ((i : Int) + 4), .slice (some ⟨wc.heap.size + 1 + 1, 0, none⟩) 2 2, .slice none 0 0] 40)).alloc (.cells #[.int .i64 ((i : Int) + 4), .slice (some ⟨wc.heap.size + 1 + 1, 0, none⟩) 2 2, .slice none 0 0] 40)) := ⟨_, rfl⟩
      have zn : wn.heap.size = wc.heap.size + 1 + 1 + 1 + 1 + 1 := by rw [hwn]; simp
      have hbn : Below wc.heap.size wc wn := by
        rw [hwn]
        refine Below.alloc (Below.alloc (Below.alloc (Below.alloc (Below.alloc (Below.refl _ _) ?_ _) ?_ _) ?_ _) ?_ _) ?_ _ <;> simp <;> omega
      have hoc : wn.heap[wc.heap.size + 1 + 1]? = some (.cells ((rgO i).flatMap cO).toArray 43) := by
        rw [hwn, Below.heap_alloc _ _ _ (by simp), Below.heap_alloc _ _ _ (by simp)]
        exact heap_atL (by simp)
      have hon : wn.heap[wc.heap.size + 1 + 1 + 1 + 1]? = some (.cells #[.int .i64 ((i : Int) + 4), .slice (some ⟨wc.heap.size + 1 + 1, 0, none⟩) 2 2, .slice none 0 0] 40) := by
        rw [hwn]
        exact heap_atL (by simp)
      have HN : Hid (∀ j u, ([.int .i64 ((i : Int) + 4), .slice (some ⟨wc.heap.size + 1 + 1, 0, none⟩) 2 2, .slice none 0 0] : List Value)[j]? = some u → wn.drew.cell? ((⟨wc.heap.size + 1 + 1 + 1 + 1, 0, none⟩ : Addr).add j) = some u) := World.news_of_block (cs := #[.int .i64 ((i : Int) + 4), .slice (some ⟨wc.heap.size + 1 + 1, 0, none⟩) 2 2, .slice none 0 0]) (t := 40) (fr := (0, 0)) hon
      have hSn := hS1.below hbn
      have oA : wn.drew.ownsRow (w.heap.size + 1 + 1 + 1 + 1 + 1 + 1 + 1 + 1 + 1 + 1 + 1 + 1 + 1 + 1 + 1 + 1 + 1 + 1 + 1 + 1) 40 3 vi i (rgXs ob i) := hSn.oi.drew
      have cB : wn.drew.cell? ⟨w.heap.size + 1 + 1 + 1 + 1 + 1 + 1 + 1 + 1 + 1 + 1 + 1 + 1 + 1 + 1 + 1 + 1 + 1 + 1, 7, none⟩ = some vi := hSn.r1.cell (i := 7) (by omega)
      have cZ : wn.drew.frozen? ⟨w.heap.size + 1 + 1 + 1 + 1 + 1 + 1 + 1 + 1 + 1 + 1 + 1 + 1 + 1 + 1 + 1 + 1 + 1 + 1, 7, none⟩ = false := hSn.r1.frozen 7
      have cF0 : wn.drew.cell? ⟨w.heap.size + 1 + 1 + 1 + 1 + 1 + 1 + 1 + 1 + 1 + 1 + 1 + 1 + 1 + 1 + 1 + 1 + 1 + 1 + 1, 0, none⟩ = some (.slice (some ⟨g, 0, none⟩) (i + 2 + 1) cap) := hSn.r2.cell (i := 0) (by omega)
      have cF1 : wn.drew.cell? ⟨w.heap.size + 1 + 1 + 1 + 1 + 1 + 1 + 1 + 1 + 1 + 1 + 1 + 1 + 1 + 1 + 1 + 1 + 1 + 1 + 1, 1, none⟩ = some (.slice (some ⟨w.heap.size + 1 + 1 + 1 + 1 + 1 + 1 + 1 + 1 + 1 + 1 + 1 + 1 + 1 + 1 + 1 + 1 + 1 + 1, 0, none⟩) 4 4) := hSn.r2.cell (i := 1) (by omega)
      have lB' : (w.heap.size + 1 + 1 + 1 + 1 + 1 + 1 + 1 + 1 + 1 + 1 + 1 + 1 + 1 + 1 + 1 + 1 + 1 + 1) < wn.drew.heap.size := by simp; omega
      have lF' : (w.heap.size + 1 + 1 + 1 + 1 + 1 + 1 + 1 + 1 + 1 + 1 + 1 + 1 + 1 + 1 + 1 + 1 + 1 + 1 + 1) < wn.drew.heap.size := by simp; omega
      have h1c : ∀ u ∈ ([.int .i64 ((i : Int) + 4), .slice (some ⟨wc.heap.size + 1 + 1, 0, none⟩) 2 2, .slice none 0 0] : List Value), u.oneCell' = true := by intro u hu; simp at hu; rcases hu with rfl | rfl | rfl <;> rfl
      have HI : Hid (RingSt w.heap.size (i + 2 + 1) i (.slice (some ⟨g, 0, none⟩) (i + 2 + 1) cap) vi ob (ringW w) wc) := hS1
      have HO : Hid (wn.heap[wc.heap.size + 1 + 1]? = some (.cells ((rgO i).flatMap cO).toArray 43)) := hoc
      have HBN : Hid (Below wc.heap.size wc wn) := hbn
      have HZN : Hid (wn.heap.size = wc.heap.size + 1 + 1 + 1 + 1 + 1) := zn
      have HWN : Hid (wn = (((((wc.alloc (.cells #[.int .i64 1, .int .i64 ((i : Int) + 1), .bool false, .int .i64 1, .int .i64 0] 43)).alloc (.cells #[.int .i64 2, .int .i64 ((i : Int) + 2), .bool true, .int .i64 1, .int .i64 0] 43)).alloc (.cells #[.int .i64 1, .int .i64 ((i : Int) + 1), .bool false, .int .i64 1, .int .i64 0, .int .i64 2, .int .i64 ((i : Int) + 2), .bool true, .int .i64 1, .int .i64 0] 43)).alloc (.cells #[.int .i64 ((i : Int) + 4), .slice (some ⟨wc.heap.size + 1 + 1, 0, none⟩) 2 2, .slice none 0 0] 40)).alloc (.cells #[.int .i64 ((i : Int) + 4), .slice (some ⟨wc.heap.size + 1 + 1, 0, none⟩) 2 2, .slice none 0 0] 40))) := hwn
      have Hbn' : Hid (Below (w.heap.size + 1) (w.alloc (.cells #[.slice none 0 0, .slice none 0 0] 25)) wn) := hbs.trans (hbn.mono (by omega))
      have HS : Hid (∀ w', Below wc.heap.size wc w' → w'.cell? ⟨w.heap.size + 1 + 1 + 1 + 1 + 1 + 1 + 1 + 1 + 1 + 1 + 1 + 1 + 1 + 1 + 1 + 1 + 1 + 1 + 1, 0, none⟩ = some (.slice (some ⟨g, 0, none⟩) (i + 2 + 1) cap) ∧ w'.cell? ⟨w.heap.size + 1 + 1 + 1 + 1 + 1 + 1 + 1 + 1 + 1 + 1 + 1 + 1 + 1 + 1 + 1 + 1 + 1 + 1 + 1, 1, none⟩ = some (.slice (some ⟨w.heap.size + 1 + 1 + 1 + 1 + 1 + 1 + 1 + 1 + 1 + 1 + 1 + 1 + 1 + 1 + 1 + 1 + 1 + 1, 0, none⟩) 4 4) ∧ w'.cell? ⟨w.heap.size + 1 + 1 + 1 + 1 + 1 + 1 + 1 + 1 + 1 + 1 + 1 + 1 + 1 + 1 + 1 + 1 + 1 + 1, 7, none⟩ = some vi) := fun w' hb => ⟨(hb.cell (by simp; omega)).trans f0, (hb.cell (by simp; omega)).trans f1, (hb.cell (by simp; omega)).trans b1⟩
      have hw2 : IntKind.i64.wrap ((i : Int) + 2) = (i : Int) + 2 := by rw [IntKind.wrap_i64]; omega
      have hw4 : IntKind.i64.wrap ((i : Int) + 4) = (i : Int) + 4 := by rw [IntKind.wrap_i64]; omega
      have e1 : ((i : Int) + 2 + 1) - 1 = (i : Int) + 2 := by omega
      have e2 : 4 + (i : Int) = (i : Int) + 4 := by omega
      clear hSn hoc hon hS1 hS zn hbn hwn hat hzb hgl hbs hbr o1
      refine wp_region_X (fun w' => w'.cell? ⟨w.heap.size + 1 + 1 + 1 + 1 + 1 + 1 + 1 + 1 + 1 + 1 + 1 + 1 + 1 + 1 + 1 + 1 + 1 + 1 + 1, 0, none⟩ = some (.slice (some ⟨g, 0, none⟩) (i + 2 + 1) cap) ∧ w'.cell? ⟨w.heap.size + 1 + 1 + 1 + 1 + 1 + 1 + 1 + 1 + 1 + 1 + 1 + 1 + 1 + 1 + 1 + 1 + 1 + 1 + 1, 1, none⟩ = some (.slice (some ⟨w.heap.size + 1 + 1 + 1 + 1 + 1 + 1 + 1 + 1 + 1 + 1 + 1 + 1 + 1 + 1 + 1 + 1 + 1 + 1, 0, none⟩) 4 4) ∧ w'.cell? ⟨w.heap.size + 1 + 1 + 1 + 1 + 1 + 1 + 1 + 1 + 1 + 1 + 1 + 1 + 1 + 1 + 1 + 1 + 1 + 1, 7, none⟩ = some vi) 22 (by kernel_rfl) ⟨f0, f1, b1⟩ (fun hHeld => ?_)
      refine wpX_take0 (v := ?_) (by kernel_rfl) (fun _ _ _ h => h) rfl ?_ hHeld ?_
      rotate_left
      · intro w' hSw
        go_simp <;> with_reducible rfl
      try simp only [Act.put, List.setIfInBounds_toArray, List.set_cons_zero, List.set_cons_succ]
      refine wpX_take1 (v := ?_) (by kernel_rfl) (fun _ _ _ h => h) rfl ?_ hHeld ?_
      rotate_left
      · intro w' hSw
        go_simp <;> with_reducible rfl
      try simp only [Act.put, List.setIfInBounds_toArray, List.set_cons_zero, List.set_cons_succ]
      refine wpX_take2 (v := ?_) (by kernel_rfl) (fun _ _ _ h => h) rfl ?_ hHeld ?_
      rotate_left
      · intro w' hSw
        go_simp <;> with_reducible rfl
      try simp only [Act.put, List.setIfInBounds_toArray, List.set_cons_zero, List.set_cons_succ]
      refine wpX_take3 (v := ?_) (by kernel_rfl) (fun _ _ _ h => h) rfl ?_ hHeld ?_
      rotate_left
      · intro w' hSw
        go_simp <;> with_reducible rfl
      try simp only [Act.put, List.setIfInBounds_toArray, List.set_cons_zero, List.set_cons_succ]
      refine wpX_take4 (v := ?_) (by kernel_rfl) (fun _ _ _ h => h) rfl ?_ hHeld ?_
      rotate_left
      · intro w' hSw
        go_simp <;> with_reducible rfl
      try simp only [Act.put, List.setIfInBounds_toArray, List.set_cons_zero, List.set_cons_succ]
      refine wpX_take5 (v := ?_) (by kernel_rfl) (fun _ _ _ h => h) rfl ?_ hHeld ?_
      rotate_left
      · intro w' hSw
        go_simp <;> with_reducible rfl
      try simp only [Act.put, List.setIfInBounds_toArray, List.set_cons_zero, List.set_cons_succ]
      refine wpX_take6 (v := ?_) (by kernel_rfl) (fun _ _ _ h => h) rfl ?_ hHeld ?_
      rotate_left
      · intro w' hSw
        go_simp <;> with_reducible rfl
      try simp only [Act.put, List.setIfInBounds_toArray, List.set_cons_zero, List.set_cons_succ]
      refine wpX_take7 (v := ?_) (by kernel_rfl) (fun _ _ _ h => h) rfl ?_ hHeld ?_
      rotate_left
      · intro w' hSw
        go_simp <;> with_reducible rfl
      try simp only [Act.put, List.setIfInBounds_toArray, List.set_cons_zero, List.set_cons_succ]
      refine wpX_take8 (v := ?_) (by kernel_rfl) (fun _ _ _ h => h) rfl ?_ hHeld ?_
      rotate_left
      · intro w' hSw
        go_simp <;> with_reducible rfl
      try simp only [Act.put, List.setIfInBounds_toArray, List.set_cons_zero, List.set_cons_succ]
      refine wpX_take9 (v := ?_) (by kernel_rfl) (fun _ _ _ h => h) rfl ?_ hHeld ?_
      rotate_left
      · intro w' hSw
        go_simp <;> with_reducible rfl
      try simp only [Act.put, List.setIfInBounds_toArray, List.set_cons_zero, List.set_cons_succ]
      refine wpX_take11 (v := ?_) (by kernel_rfl) (fun _ _ _ h => h) rfl ?_ hHeld ?_
      rotate_left
      · intro w' hSw
        go_simp <;> with_reducible rfl
      try simp only [Act.put, List.setIfInBounds_toArray, List.set_cons_zero, List.set_cons_succ]
      refine wpX_take12 (v := ?_) (by kernel_rfl) (fun _ _ _ h => h) rfl ?_ hHeld ?_
      rotate_left
      · intro w' hSw
        go_simp <;> with_reducible rfl
      try simp only [Act.put, List.setIfInBounds_toArray, List.set_cons_zero, List.set_cons_succ]
      refine wpX_take13 (v := ?_) (by kernel_rfl) (fun _ _ _ h => h) rfl ?_ hHeld ?_
      rotate_left
      · intro w' hSw
        go_simp <;> with_reducible rfl
      try simp only [Act.put, List.setIfInBounds_toArray, List.set_cons_zero, List.set_cons_succ]
      refine wpX_take14 (v := ?_) (by kernel_rfl) (fun _ _ _ h => h) rfl ?_ hHeld ?_
      rotate_left
      · intro w' hSw
        go_simp <;> with_reducible rfl
      try simp only [Act.put, List.setIfInBounds_toArray, List.set_cons_zero, List.set_cons_succ]
      refine wpX_step10 (by kernel_rfl) (fun K hK => ?_)
      go_simp
      refine (use_any _ _).mono ?_
      rintro e w' ⟨rfl, rfl⟩
      refine hK.out _ _ ?_ (fun hHeld => ?_)
      · refine HS.out _ ?_
        repeat (first | refine Below.alloc ?_ (by simp <;> omega) _ | refine Below.drew ?_)
        exact Below.refl _ _
      clear hK K
      try simp only [Act.put, List.setIfInBounds_toArray, List.set_cons_zero, List.set_cons_succ]
      refine wpX_step15 (by kernel_rfl) (fun K hK => ?_)
      go_simp
      refine (def_any _ _).mono ?_
      rintro e w' ⟨rfl, rfl⟩
      refine hK.out _ _ ?_ (fun hHeld => ?_)
      · refine HS.out _ ?_
        repeat (first | refine Below.alloc ?_ (by simp <;> omega) _ | refine Below.drew ?_)
        exact Below.refl _ _
      clear hK K
      try simp only [Act.put, List.setIfInBounds_toArray, List.set_cons_zero, List.set_cons_succ]
      refine wpX_step16 (by kernel_rfl) (fun K hK => ?_)
      go_simp
      refine hK.out _ _ ?_ (fun hHeld => ?_)
      · refine HS.out _ ?_
        repeat (first | refine Below.alloc ?_ (by simp <;> omega) _ | refine Below.drew ?_)
        exact Below.refl _ _
      clear hK K
      try simp only [Act.put, List.setIfInBounds_toArray, List.set_cons_zero, List.set_cons_succ]
      refine wpX_step17 (by kernel_rfl) (fun K hK => ?_)
      go_simp
      refine (op_any _ _ _ _ _).mono ?_
      rintro e w' ⟨rfl, rfl⟩
      refine hK.out _ _ ?_ (fun hHeld => ?_)
      · refine HS.out _ ?_
        repeat (first | refine Below.alloc ?_ (by simp <;> omega) _ | refine Below.drew ?_)
        exact Below.refl _ _
      clear hK K
      try simp only [Act.put, List.setIfInBounds_toArray, List.set_cons_zero, List.set_cons_succ]
      refine wpX_step18 (by kernel_rfl) (fun K hK => ?_)
      go_simp
      refine hK.out _ _ ?_ (fun hHeld => ?_)
      · refine HS.out _ ?_
        repeat (first | refine Below.alloc ?_ (by simp <;> omega) _ | refine Below.drew ?_)
        exact Below.refl _ _
      clear hK K
      try simp only [Act.put, List.setIfInBounds_toArray, List.set_cons_zero, List.set_cons_succ]
      refine wpX_step19 (by kernel_rfl) (fun K hK => ?_)
      rw [← HWN.out]
      refine step_append_lies _ (by rfl) _ _ _ (by rfl) (w.heap.size + 1 + 1 + 1 + 1 + 1 + 1 + 1 + 1 + 1 + 1 + 1 + 1 + 1 + 1 + 1 + 1 + 1 + 1 + 1 + 1) 40 i30 _ 3 56 Try.underlying45 hi30 hz30 hz301 hz302 rfl (by omega) vi i (rgXs ob i) (by rfl) oA ⟨wc.heap.size + 1 + 1 + 1 + 1, 0, none⟩ 1 1 [.int .i64 ((i : Int) + 4), .slice (some ⟨wc.heap.size + 1 + 1, 0, none⟩) 2 2, .slice none 0 0] (by rfl) (by rfl) HN.out h1c (by omega) (by unfold maxLen; omega) (by omega) (by have := HZN.out; simp; omega) wn.heap.size (by simp) ?_
      intro gg cap2 wb2 hown1 hgrow hat2 hlt2
      have b1' := (hgrow.cell_far _ lB' nB).trans cB
      have zb' := (hgrow.frozen_far _ lB' nB).trans cZ
      have f0' := (hgrow.cell_far _ lF' nF).trans cF0
      have f1' := (hgrow.cell_far _ lF' nF).trans cF1
      refine hK.out _ _ ⟨f0', f1', b1'⟩ (fun hHeld => ?_)
      clear hK K
      try simp only [Act.put, List.setIfInBounds_toArray, List.set_cons_zero, List.set_cons_succ]
      refine wpX_step20 (by kernel_rfl) (fun K hK => ?_)
      go_simp
      refine hK.out _ _ ⟨f0', f1', b1'⟩ (fun hHeld => ?_)
      clear hK K
      refine wpX_take21 (v := ?_) (by kernel_rfl) (fun _ _ _ h => h) rfl ?_ hHeld ?_
      rotate_left
      · intro w' hSw
        go_simp <;> with_reducible rfl
      try simp only [Act.put, List.setIfInBounds_toArray, List.set_cons_zero, List.set_cons_succ]
      refine wpX_last22 (by kernel_rfl) rfl (by kernel_rfl) (fun K hK => ?_)
      go_simp
      refine hK.out _ _ ?_
      clear hK K
      go_wp2
      go_roundw
      case rel =>
        have hzn := HZN.out
        have hzz := hgrow.size
        simp at hzz
        have hS3 := HI.out.instr (wa := wn.drew) (o := wc.heap.size + 1 + 1) (by omega) (by simp; omega) nV nO nOb HO.out (g := gg) (cap := cap2) hown1 HBN.out.drew hgrow (hat2.imp id fun h => by simp; omega)
        have hb3 : Below (w.heap.size + 1) (w.alloc (.cells #[.slice none 0 0, .slice none 0 0] 25)) (wb2.setCell ⟨w.heap.size + 1 + 1 + 1 + 1 + 1 + 1 + 1 + 1 + 1 + 1 + 1 + 1 + 1 + 1 + 1 + 1 + 1 + 1, 7, none⟩ (.slice (some ⟨gg, 0, none⟩) (i + 1) cap2)) := Below.setCell ((Hbn'.out.drew).grown hgrow (by simp; omega) (fun h hh => by have := own_base oA hh; omega)) (by simp <;> omega) _
        have e : i + 2 + 1 = i + 1 + 2 := by omega
        rw [e] at hS3
        exact ⟨i + 1, _, _, _, by omega, by go_num, by go_num, hS3, hb3⟩
      case measure => simp [intOf]; omega
    · have hin : i = n := by omega
      subst hin
      have f0 : wr.cell? ⟨w.heap.size + 1 + 1 + 1 + 1 + 1 + 1 + 1 + 1 + 1 + 1 + 1 + 1 + 1 + 1 + 1 + 1 + 1 + 1 + 1, 0, none⟩ = some vv := hS.r2.cell (i := 0) (by omega)
      have f1 : wr.cell? ⟨w.heap.size + 1 + 1 + 1 + 1 + 1 + 1 + 1 + 1 + 1 + 1 + 1 + 1 + 1 + 1 + 1 + 1 + 1 + 1 + 1, 1, none⟩ = some (.slice (some ⟨w.heap.size + 1 + 1 + 1 + 1 + 1 + 1 + 1 + 1 + 1 + 1 + 1 + 1 + 1 + 1 + 1 + 1 + 1 + 1, 0, none⟩) 4 4) := hS.r2.cell (i := 1) (by omega)
      have b7 : wr.cell? ⟨w.heap.size + 1 + 1 + 1 + 1 + 1 + 1 + 1 + 1 + 1 + 1 + 1 + 1 + 1 + 1 + 1 + 1 + 1 + 1, 7, none⟩ = some vi := hS.r1.cell (i := 7) (by omega)
      have b8 : wr.cell? ⟨w.heap.size + 1 + 1 + 1 + 1 + 1 + 1 + 1 + 1 + 1 + 1 + 1 + 1 + 1 + 1 + 1 + 1 + 1 + 1, 8, none⟩ = some (.slice none 0 0) := hS.r1.cell (i := 8) (by omega)
      have z8 := hS.r1.frozen 8
      have c00 : wr.cell? ⟨w.heap.size, 0, none⟩ = some (.slice none 0 0) := (hbr.cell (by simp)).trans (by go_simp)
      have c01 : wr.cell? ⟨w.heap.size, 1, none⟩ = some (.slice none 0 0) := (hbr.cell (by simp)).trans (by go_simp)
      have z00 : wr.frozen? ⟨w.heap.size, 0, none⟩ = false := (hbr.frozen (by simp)).trans (by go_simp)
      have z01 : wr.frozen? ⟨w.heap.size, 1, none⟩ = false := (hbr.frozen (by simp)).trans (by go_simp)
      obtain ⟨avv, cvv, rfl⟩ := own_formL hS.ov
      have lB := hS.r1.lt
      have LB := old_cell (w.heap.size + 1 + 1 + 1 + 1 + 1 + 1 + 1 + 1 + 1 + 1 + 1 + 1 + 1 + 1 + 1 + 1 + 1 + 1)
      have LF := old_cell (w.heap.size + 1 + 1 + 1 + 1 + 1 + 1 + 1 + 1 + 1 + 1 + 1 + 1 + 1 + 1 + 1 + 1 + 1 + 1 + 1)
      have LM := old_cell (w.heap.size)
      have lM : w.heap.size < wr.heap.size := by omega
      have lB1 : w.heap.size + 1 + 1 + 1 + 1 + 1 + 1 + 1 + 1 + 1 + 1 + 1 + 1 + 1 + 1 + 1 + 1 + 1 + 1 < wr.heap.size + 1 := by omega
      have lF1 : w.heap.size + 1 + 1 + 1 + 1 + 1 + 1 + 1 + 1 + 1 + 1 + 1 + 1 + 1 + 1 + 1 + 1 + 1 + 1 + 1 < wr.heap.size + 1 := by omega
      have lM1 : w.heap.size < wr.heap.size + 1 := by omega
      have hw1 : IntKind.i64.wrap ((i : Int) + 1) = (i : Int) + 1 := by rw [IntKind.wrap_i64]; omega
      obtain ⟨WX, hWX⟩ : ∃ WX, WX = ((((wr.setCell ⟨w.heap.size + 1 + 1 + 1 + 1 + 1 + 1 + 1 + 1 + 1 + 1 + 1 + 1 + 1 + 1 + 1 + 1 + 1 + 1, 8, none⟩ (.slice (some ⟨wr.heap.size + 1, 0, none⟩) 1 1)).setCell ⟨w.heap.size, 0, none⟩ (.slice avv (i + 2) cvv)).setCell ⟨w.heap.size, 1, none⟩ (.slice (some ⟨w.heap.size + 1 + 1 + 1 + 1 + 1 + 1 + 1 + 1 + 1 + 1 + 1 + 1 + 1 + 1 + 1 + 1 + 1 + 1, 0, none⟩) 4 4)).alloc (.cells #[.int .i64 ((i : Int) + 1)] 3)).alloc (.cells #[.int .i64 1, .slice (some ⟨wr.heap.size, 0, none⟩) 1 1] 47) := ⟨_, rfl⟩
      have zX : WX.heap.size = wr.heap.size + 1 + 1 := by rw [hWX]; simp
      have hbX : Below w.heap.size w WX := by
        rw [hWX]
        refine Below.alloc (Below.alloc (Below.setCell (Below.setCell (Below.setCell (((Below.refl _ _).alloc (Nat.le_refl _) _).trans (hbr.mono (by omega))) (by simp <;> omega) _) (by simp) _) (by simp) _) (by simp; omega) _) (by simp; omega) _
      have kX : ∀ b, b < wr.heap.size → b ≠ w.heap.size + 1 + 1 + 1 + 1 + 1 + 1 + 1 + 1 + 1 + 1 + 1 + 1 + 1 + 1 + 1 + 1 + 1 + 1 → b ≠ w.heap.size → WX.heap[b]? = wr.heap[b]? := fun b h0 h1 h2 => by
        rw [hWX, Below.heap_alloc _ _ _ (by simp; omega), Below.heap_alloc _ _ _ (by simp; omega), Below.heap_setCell _ _ _ _ (by simpa using h2), Below.heap_setCell _ _ _ _ (by simpa using h2), Below.heap_setCell _ _ _ _ (by simpa using h1)]
      have hfin : RingFin w.heap.size i (wr.heap.size + 1) wr.heap.size wr WX := by
        refine ⟨⟨Nat.le_refl _, by omega, by omega⟩, ⟨vi, b7, ?_⟩, ?_, ?_, kX⟩
        · rw [hWX]
          refine (((((hS.r1.set 8 _).setOther (by show w.heap.size + 1 + 1 + 1 + 1 + 1 + 1 + 1 + 1 + 1 + 1 + 1 + 1 + 1 + 1 + 1 + 1 + 1 + 1 ≠ w.heap.size; omega) _).setOther (by show w.heap.size + 1 + 1 + 1 + 1 + 1 + 1 + 1 + 1 + 1 + 1 + 1 + 1 + 1 + 1 + 1 + 1 + 1 + 1 ≠ w.heap.size; omega) _).alloc _).alloc _).congr fun q hq => ?_
          match q, hq with | 0, _ => rfl | 1, _ => rfl | 2, _ => rfl | 3, _ => rfl | 4, _ => rfl | 5, _ => rfl | 6, _ => rfl | 7, _ => rfl | 8, _ => rfl | 9, _ => rfl | 10, _ => rfl | 11, _ => rfl
        · rw [hWX]
          refine ⟨_, heap_atL (by simp), rfl, fun q hq => ?_⟩
          match q, hq with | 0, _ => rfl | 1, _ => rfl
        · rw [hWX]
          refine ⟨_, (Below.heap_alloc _ _ _ (by simp)).trans (heap_atL (by simp)), rfl, fun q hq => ?_⟩
          match q, hq with | 0, _ => rfl
      have g0 : WX.cell? ⟨w.heap.size, 0, none⟩ = some (.slice avv (i + 2) cvv) := by rw [hWX]; go_simp
      have g1 : WX.cell? ⟨w.heap.size, 1, none⟩ = some (.slice (some ⟨w.heap.size + 1 + 1 + 1 + 1 + 1 + 1 + 1 + 1 + 1 + 1 + 1 + 1 + 1 + 1 + 1 + 1 + 1 + 1, 0, none⟩) 4 4) := by rw [hWX]; go_simp
      have HW : Hid (WX = _) := hWX
      have HS : Hid (RingSt w.heap.size (i + 2) i (.slice avv (i + 2) cvv) vi ob (ringW w) wr) := hS
      clear hWX zX kX hS hbr
      go_wp2
      rw [← HW.out]
      exact bodyPost_ret (v := .agg #[.slice avv (i + 2) cvv, .slice (some ⟨w.heap.size + 1 + 1 + 1 + 1 + 1 + 1 + 1 + 1 + 1 + 1 + 1 + 1 + 1 + 1 + 1 + 1 + 1 + 1, 0, none⟩) 4 4]) (by simp [results, Try.results18, go_sem, g0, g1]) rfl ⟨_, vi, ob, _, _, wr, rfl, HS.out, hfin, hbX⟩
end Go.Proofs.Ytengmgdnpojfjaa
