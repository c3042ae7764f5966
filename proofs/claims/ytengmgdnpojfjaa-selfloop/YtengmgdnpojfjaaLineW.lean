/-
  The contract of the statements' own 'line': what it has made reads as such a function; it writes to nothing that was there.
-/
import Derived.Test.YtengmgdnpojfjaaLineS
import Derived.Test.YtengmgdnpojfjaaReg
import Derived.Deep.DeepCutAuto
import Derived.Deep.CutBlock
namespace Go.Proofs.Ytengmgdnpojfjaa
open Go.RowKit
set_option linter.unusedVariables false

theorem newsL {w : World} {ob : Obj} {cs : Array Value} {t : Nat} (h : ob = .cells cs t) : ∀ j u, cs.toList[j]? = some u → (w.alloc ob).cell? ((⟨w.heap.size, 0, none⟩ : Addr).add j) = some u := by
  subst h
  exact World.news_of_block (heap_alloc_new w _)
theorem heap_atL {W : World} {o : Obj} {n : Nat} (h : n = W.heap.size) : (W.alloc o).heap[n]? = some o := by subst h; exact heap_alloc_new W o

theorem own_formL {w : World} {base e k n : Nat} {v : Value} {xs : List Value} (h : w.ownsRow base e k v n xs) : ∃ a cap, v = .slice a n cap := by
  rcases h.2 with ⟨rfl, rfl⟩ | ⟨g, cap, cur, rfl, _⟩
  · exact ⟨none, 0, rfl⟩
  · exact ⟨_, _, rfl⟩

set_option maxHeartbeats 4000000 in
theorem line_any (n : Nat) (w : World) (h1 : 1 ≤ n) (hn : n ≤ 100000) :
    Calls Try.prog 20 #[.int .i64 n] w fun e w' => ∃ vv vi ob, e = .returned (.agg #[vv, .slice (some ⟨w.heap.size + 1, 0, none⟩) 1 1]) ∧ LineSt w.heap.size n n vv vi ob w' ∧ Below w.heap.size w w' := by
  obtain ⟨i3, hi3, hz3, hz31, hz32⟩ := info_parts infoI3
  obtain ⟨i30, hi30, hz30, hz301, hz302⟩ := info_parts infoIn
  go_enter Try.func20, Try.ntmps20
  go_wp2_with fail
  go_loopw [4] (fun t wr => ∃ (i : Nat) (vv vi : Value) (ob : Nat → Nat), i ≤ n ∧ t = .int .i64 i ∧ LineSt w.heap.size i i vv vi ob wr ∧ Below (w.heap.size + 1) (w.alloc (.cells #[.slice none 0 0, .slice none 0 0] 25)) wr) (fun t _ => n - (intOf t).toNat)
  case atStart => exact ⟨0, .slice none 0 0, .slice none 0 0, fun _ => 0, Nat.zero_le _, rfl, lineSt0 w, ((Below.refl _ _).alloc (by simp) _).alloc (by simp) _⟩
  case round =>
    obtain ⟨i, vv, vi, ob, hi, rfl, hS, hbr⟩ := hrel
    have hz0 := hS.r2.lt
    by_cases hlt : i < n
    · have o1 := hS.ov
      have c20 : wr.cell? ⟨w.heap.size + 1 + 1, 0, none⟩ = some vv := hS.r2.cell (i := 0) (by omega)
      have oA := o1.alloc (.cells #[.int .i64 0] 3)
      go_wp2_with (at_builtin; go_must (refine wpList_append_lies _ rfl _ _ 22 rfl (w.heap.size + 1 + 1 + 1) 3 i3 (.int .i64 0) 1 8 Try.underlying22 hi3 hz3 hz31 hz32 rfl (by omega) vv i _ (by rfl) oA ⟨wr.heap.size, 0, none⟩ 1 1 [.int .i64 0] (by rfl) (by rfl) ?c1 ?c2 (by omega) ?c3 ?c4 ?c5 (wr.heap.size + 1) ?c6 ?_))
      case c1 => exact newsL rfl
      case c2 => intro u hu; simp at hu; subst hu; rfl
      case c3 => unfold maxLen; omega
      case c4 => omega
      case c5 => simp; omega
      case c6 => simp
      intro g cap wb hown hgrow hat hgl
      obtain ⟨q2, hS1⟩ := hS.vals hown hgrow hat
      have hzb := hgrow.size
      simp at hzb
      have f2 := q2.frozen 0
      have x2 : wb.cell? ⟨w.heap.size + 1 + 1, 0, none⟩ = some vv := q2.cell (i := 0) (by omega)
      have hbb : Below (w.heap.size + 1) _ wb := (hbr.alloc (by omega) _).grown hgrow (by simp; omega) (fun h hh => by have := own_base o1 hh; omega)
      have hbs : Below (w.heap.size + 1) _ (wb.setCell ⟨w.heap.size + 1 + 1, 0, none⟩ (.slice (some ⟨g, 0, none⟩) (i + 1) cap)) := hbb.setCell (by simp) _
      obtain ⟨wc, hwc⟩ : ∃ wc, wc = wb.setCell ⟨w.heap.size + 1 + 1, 0, none⟩ (.slice (some ⟨g, 0, none⟩) (i + 1) cap) := ⟨_, rfl⟩
      have hzc : wc.heap.size = wb.heap.size := by rw [hwc]; simp
      have HC : Hid (wc = wb.setCell ⟨w.heap.size + 1 + 1, 0, none⟩ (.slice (some ⟨g, 0, none⟩) (i + 1) cap)) := hwc
      rw [← hwc] at hS1 hbs
      clear hwc hzc oA hown hgrow c20
      have hz1 := hS1.r2.lt
      go_upto_region 6 with fail
      rw [← HC.out]
      clear q2 f2 x2 hbb HC
      by_cases hp : 0 < i
      · go_wp2_with (first
          | (go_at_call 14; refine (def_any _ _).mono ?_; rintro e w' ⟨rfl, rfl⟩)
          | (go_at_call 15; refine (use_any _ _).mono ?_; rintro e w' ⟨rfl, rfl⟩)
          | (go_at_call 13; refine (op_any _ _ _ _ _).mono ?_; rintro e w' ⟨rfl, rfl⟩))
        obtain ⟨wn, hwn⟩ : ∃ wn, wn = ((((((((wc.alloc (.cells #[.int .i64 2, .int .i64 i, .bool true, .int .i64 1, .int .i64 0] 43)).alloc (.cells #[.int .i64 2, .int .i64 i, .bool true, .int .i64 1, .int .i64 0] 43)).alloc (.cells #[.int .i64 ((i : Int) % 256), .slice (some ⟨wc.heap.size + 1, 0, none⟩) 1 1, .slice none 0 0] 40)).alloc (.cells #[.int .i64 ((i : Int) % 256), .slice (some ⟨wc.heap.size + 1 + 1 + 1 + 1 + 1 + 1, 0, none⟩) 2 2, .slice none 0 0] 40)).alloc (.cells #[.int .i64 1, .int .i64 ((i : Int) - 1), .bool false, .int .i64 1, .int .i64 0] 43)).alloc (.cells #[.int .i64 2, .int .i64 i, .bool true, .int .i64 1, .int .i64 0] 43)).alloc (.cells #[.int .i64 1, .int .i64 ((i : Int) - 1), .bool false, .int .i64 1, .int .i64 0, .int .i64 2, .int .i64 i, .bool true, .int .i64 1, .int .i64 0] 43)).alloc (.cells #[.int .i64 ((i : Int) % 256), .slice (some ⟨wc.heap.size + 1 + 1 + 1 + 1 + 1 + 1, 0, none⟩) 2 2, .slice none 0 0] 40)) := ⟨_, rfl⟩
        have zn : wn.heap.size = wc.heap.size + 1 + 1 + 1 + 1 + 1 + 1 + 1 + 1 := by rw [hwn]; simp
        have hbn : Below wc.heap.size wc wn := by
          rw [hwn]
          repeat (first | exact Below.refl _ _ | refine Below.alloc ?_ (by simp; try omega) _)
        have hSx := hS1.below hbn
        have x0 : wn.cell? ⟨wc.heap.size + 1 + 1 + 1, 0, none⟩ = some (.int .i64 ((i : Int) % 256)) := by rw [hwn]; go_simp
        have x1 : wn.cell? ⟨wc.heap.size + 1 + 1 + 1, 1, none⟩ = some (.slice (some ⟨wc.heap.size + 1 + 1 + 1 + 1 + 1 + 1, 0, none⟩) 2 2) := by rw [hwn]; go_simp
        have x2 : wn.cell? ⟨wc.heap.size + 1 + 1 + 1, 2, none⟩ = some (.slice none 0 0) := by rw [hwn]; go_simp
        have hoc : wn.heap[wc.heap.size + 1 + 1 + 1 + 1 + 1 + 1]? = some (.cells ((lnO i).flatMap cO).toArray 43) := by
          rw [hwn]
          rw [Below.heap_alloc _ _ _ (by simp)]
          have e : (lnO i).flatMap cO = [.int .i64 1, .int .i64 ((i : Int) - 1), .bool false, .int .i64 1, .int .i64 0, .int .i64 2, .int .i64 i, .bool true, .int .i64 1, .int .i64 0] := by rw [lnO, if_neg (by omega)]; rfl
          rw [e]
          exact heap_atL (by simp)
        rw [← hwn]
        clear hwn
        obtain ⟨o0, ho0⟩ : ∃ o0, o0 = wc.heap.size + 1 + 1 + 1 + 1 + 1 + 1 := ⟨_, rfl⟩
        obtain ⟨xb, hxb⟩ : ∃ xb, xb = wc.heap.size + 1 + 1 + 1 := ⟨_, rfl⟩
        rw [← ho0] at x1 hoc ⊢
        rw [← hxb] at x0 x1 x2 ⊢
        have own := hSx.oi
        have b1 : wn.cell? ⟨w.heap.size + 1, 1, none⟩ = some vi := hSx.r1.cell (i := 1) (by omega)
        have zb := hSx.r1.frozen 1
        have f1 : wn.cell? ⟨w.heap.size + 1 + 1, 1, none⟩ = some (.slice (some ⟨w.heap.size + 1, 0, none⟩) 1 1) := hSx.r2.cell (i := 1) (by omega)
        have lB := hSx.r1.lt
        have lF := hSx.r2.lt
        have lX : xb < wn.heap.size := by omega
        have nB : some (w.heap.size + 1) ≠ vi.ownBlock := fun e => by have := own_base own e.symm; omega
        have nF : some (w.heap.size + 1 + 1) ≠ vi.ownBlock := fun e => by have := own_base own e.symm; omega
        have nX : some xb ≠ vi.ownBlock := fun e => by have := own_base hS1.oi e.symm; omega
        have nO : vi.ownBlock ≠ some o0 := fun e => by have := own_base hS1.oi e; omega
        have nV : (Value.slice (some ⟨g, 0, none⟩) (i + 1) cap).ownBlock ≠ some o0 := fun e => by have := own_base hS1.ov e; omega
        have nOb : ∀ k, k < i → ob k ≠ o0 := fun k hk e => by have := (hS1.obs k hk).lt; omega
        have lO : w.heap.size + 1 + 1 + 1 ≤ o0 ∧ o0 < wn.heap.size := by omega
        have dX : ¬ w.heap.size + 1 = xb := by omega
        have hbn' := hbs.trans (hbn.mono (by omega))
        have oA := (own.alloc (.cells #[.int .i64 ((i : Int) % 256), .slice (some ⟨o0, 0, none⟩) 2 2, .slice none 0 0] 40)).drew
        have LB := old_cell (w.heap.size + 1)
        have LF := old_cell (w.heap.size + 1 + 1)
        have LX := old_cell xb
        have cB : ((wn.alloc (.cells #[.int .i64 ((i : Int) % 256), .slice (some ⟨o0, 0, none⟩) 2 2, .slice none 0 0] 40)).drew).cell? ⟨w.heap.size + 1, 1, none⟩ = some vi := (LB _ _ _ lB).trans b1
        have cZ : ((wn.alloc (.cells #[.int .i64 ((i : Int) % 256), .slice (some ⟨o0, 0, none⟩) 2 2, .slice none 0 0] 40)).drew).frozen? ⟨w.heap.size + 1, 1, none⟩ = false := (frozen?_alloc_cells _ _ _ _).trans zb
        have cF : ((wn.alloc (.cells #[.int .i64 ((i : Int) % 256), .slice (some ⟨o0, 0, none⟩) 2 2, .slice none 0 0] 40)).drew).cell? ⟨w.heap.size + 1 + 1, 1, none⟩ = some (.slice (some ⟨w.heap.size + 1, 0, none⟩) 1 1) := (LF _ _ _ lF).trans f1
        have cX0 := (LX wn (.cells #[.int .i64 ((i : Int) % 256), .slice (some ⟨o0, 0, none⟩) 2 2, .slice none 0 0] 40) 0 lX).trans x0
        have cX1 := (LX wn (.cells #[.int .i64 ((i : Int) % 256), .slice (some ⟨o0, 0, none⟩) 2 2, .slice none 0 0] 40) 1 lX).trans x1
        have cX2 := (LX wn (.cells #[.int .i64 ((i : Int) % 256), .slice (some ⟨o0, 0, none⟩) 2 2, .slice none 0 0] 40) 2 lX).trans x2
        have lB' : (w.heap.size + 1) < ((wn.alloc (.cells #[.int .i64 ((i : Int) % 256), .slice (some ⟨o0, 0, none⟩) 2 2, .slice none 0 0] 40)).drew).heap.size := by simp; omega
        have lF' : (w.heap.size + 1 + 1) < ((wn.alloc (.cells #[.int .i64 ((i : Int) % 256), .slice (some ⟨o0, 0, none⟩) 2 2, .slice none 0 0] 40)).drew).heap.size := by simp; omega
        have lX' : xb < ((wn.alloc (.cells #[.int .i64 ((i : Int) % 256), .slice (some ⟨o0, 0, none⟩) 2 2, .slice none 0 0] 40)).drew).heap.size := by simp; omega
        have HN : Hid (∀ j u, ([.int .i64 ((i : Int) % 256), .slice (some ⟨o0, 0, none⟩) 2 2, .slice none 0 0] : List Value)[j]? = some u → ((wn.alloc (.cells #[.int .i64 ((i : Int) % 256), .slice (some ⟨o0, 0, none⟩) 2 2, .slice none 0 0] 40)).drew).cell? ((⟨wn.heap.size, 0, none⟩ : Addr).add j) = some u) := World.news_of_block (cs := #[.int .i64 ((i : Int) % 256), .slice (some ⟨o0, 0, none⟩) 2 2, .slice none 0 0]) (t := 40) (fr := (0, 0)) (heap_alloc_new wn _)
        have h1c : ∀ u ∈ ([.int .i64 ((i : Int) % 256), .slice (some ⟨o0, 0, none⟩) 2 2, .slice none 0 0] : List Value), u.oneCell' = true := by intro u hu; simp at hu; rcases hu with rfl | rfl | rfl <;> rfl
        have HM : Hid (wc.heap.size ≤ wn.heap.size) := hbn.size
        have HI : Hid (LineSt w.heap.size (i + 1) i (.slice (some ⟨g, 0, none⟩) (i + 1) cap) vi ob wn) := hSx
        have HO : Hid (wn.heap[o0]? = some (.cells ((lnO i).flatMap cO).toArray 43)) := hoc
        have eX : [.int .i64 ((i : Int) % 256), .slice (some ⟨o0, 0, none⟩) 2 2, .slice none 0 0] = lnX o0 i := by
          unfold lnX lnO
          rw [if_neg (by omega), Int.natCast_emod]; rfl
        have EX : Hid ([.int .i64 ((i : Int) % 256), .slice (some ⟨o0, 0, none⟩) 2 2, .slice none 0 0] = lnX o0 i) := eX
        clear hSx hoc eX hS1 hS ho0 hxb zn hbn hat hzb hgl hz1 hz0 hbs hbr o1
        refine wp_region_X (fun w' => w'.cell? ⟨w.heap.size + 1 + 1, 1, none⟩ = some (.slice (some ⟨w.heap.size + 1, 0, none⟩) 1 1) ∧ w'.cell? ⟨w.heap.size + 1, 1, none⟩ = some vi ∧ w'.cell? ⟨xb, 0, none⟩ = some (.int .i64 ((i : Int) % 256)) ∧ w'.cell? ⟨xb, 1, none⟩ = some (.slice (some ⟨o0, 0, none⟩) 2 2) ∧ w'.cell? ⟨xb, 2, none⟩ = some (.slice none 0 0)) 12 (by kernel_rfl) ⟨f1, b1, x0, x1, x2⟩ (fun hHeld => ?_)
        refine wpX_take0 (v := ?_) (by kernel_rfl) (fun _ _ _ h => h) rfl ?_ hHeld ?_
        rotate_left
        · intro w' hSw
          go_simp <;> with_reducible rfl
        simp only [Act.put, List.setIfInBounds_toArray, List.set_cons_zero, List.set_cons_succ]
        refine wpX_take1 (v := ?_) (by kernel_rfl) (fun _ _ _ h => h) rfl ?_ hHeld ?_
        rotate_left
        · intro w' hSw
          go_simp <;> with_reducible rfl
        simp only [Act.put, List.setIfInBounds_toArray, List.set_cons_zero, List.set_cons_succ]
        refine wpX_take2 (v := ?_) (by kernel_rfl) (fun _ _ _ h => h) rfl ?_ hHeld ?_
        rotate_left
        · intro w' hSw
          go_simp <;> with_reducible rfl
        simp only [Act.put, List.setIfInBounds_toArray, List.set_cons_zero, List.set_cons_succ]
        refine wpX_take3 (v := ?_) (by kernel_rfl) (fun _ _ _ h => h) rfl ?_ hHeld ?_
        rotate_left
        · intro w' hSw
          go_simp <;> with_reducible rfl
        simp only [Act.put, List.setIfInBounds_toArray, List.set_cons_zero, List.set_cons_succ]
        refine wpX_take4 (v := ?_) (by kernel_rfl) (fun _ _ _ h => h) rfl ?_ hHeld ?_
        rotate_left
        · intro w' hSw
          go_simp <;> with_reducible rfl
        simp only [Act.put, List.setIfInBounds_toArray, List.set_cons_zero, List.set_cons_succ]
        refine wpX_take5 (v := ?_) (by kernel_rfl) (fun _ _ _ h => h) rfl ?_ hHeld ?_
        rotate_left
        · intro w' hSw
          go_simp <;> with_reducible rfl
        simp only [Act.put, List.setIfInBounds_toArray, List.set_cons_zero, List.set_cons_succ]
        refine wpX_take6 (v := ?_) (by kernel_rfl) (fun _ _ _ h => h) rfl ?_ hHeld ?_
        rotate_left
        · intro w' hSw
          go_simp <;> with_reducible rfl
        simp only [Act.put, List.setIfInBounds_toArray, List.set_cons_zero, List.set_cons_succ]
        refine wpX_take7 (v := ?_) (by kernel_rfl) (fun _ _ _ h => h) rfl ?_ hHeld ?_
        rotate_left
        · intro w' hSw
          go_simp <;> with_reducible rfl
        simp only [Act.put, List.setIfInBounds_toArray, List.set_cons_zero, List.set_cons_succ]
        refine wpX_step8 (by kernel_rfl) (fun K hK => ?_)
        go_simp
        refine hK.out _ _ ⟨cF, cB, cX0, cX1, cX2⟩ (fun hHeld => ?_)
        clear hK K
        refine wpX_step9 (by kernel_rfl) (fun K hK => ?_)
        refine step_append_lies _ (by rfl) _ _ _ (by rfl) (w.heap.size + 1 + 1 + 1) 40 i30 _ 3 56 Try.underlying45 hi30 hz30 hz301 hz302 rfl (by omega) vi i (lnXs ob i) (by rfl) oA ⟨wn.heap.size, 0, none⟩ 1 1 [.int .i64 ((i : Int) % 256), .slice (some ⟨o0, 0, none⟩) 2 2, .slice none 0 0] (by rfl) (by rfl) HN.out h1c (by omega) (by unfold maxLen; omega) (by omega) (by simp; omega) (wn.heap.size + 1) (by simp) ?_
        intro gg cap2 wb2 hown1 hgrow hat2 hlt2
        have b1' := (hgrow.cell_far _ lB' nB).trans cB
        have zb' := (hgrow.frozen_far _ lB' nB).trans cZ
        have f1' := (hgrow.cell_far _ lF' nF).trans cF
        have x0' := (hgrow.cell_far _ lX' nX).trans cX0
        have x1' := (hgrow.cell_far _ lX' nX).trans cX1
        have x2' := (hgrow.cell_far _ lX' nX).trans cX2
        refine hK.out _ _ ⟨f1', b1', x0', x1', x2'⟩ (fun hHeld => ?_)
        clear hK K
        simp only [Act.put, List.setIfInBounds_toArray, List.set_cons_zero, List.set_cons_succ]
        refine wpX_step10 (by kernel_rfl) (fun K hK => ?_)
        go_simp
        refine hK.out _ _ ⟨f1', b1', x0', x1', x2'⟩ (fun hHeld => ?_)
        clear hK K
        refine wpX_take11 (v := ?_) (by kernel_rfl) (fun _ _ _ h => h) rfl ?_ hHeld ?_
        rotate_left
        · intro w' hSw
          go_simp <;> with_reducible rfl
        simp only [Act.put, List.setIfInBounds_toArray, List.set_cons_zero, List.set_cons_succ]
        refine wpX_last12 (by kernel_rfl) rfl (by kernel_rfl) (fun K hK => ?_)
        go_simp
        refine hK.out _ _ ?_
        clear hK K
        go_wp2
        go_roundw
        case rel =>
          have hS3 := HI.out.instr lO.1 lO.2 nV nO nOb HO.out (g := gg) (cap := cap2) (by rw [← EX.out]; exact hown1) (((Below.refl _ _).alloc (Nat.le_refl _) _).drew) hgrow (hat2.imp id fun h => by omega)
          have hb3 : Below (w.heap.size + 1) (w.alloc (.cells #[.slice none 0 0, .slice none 0 0] 25)) (wb2.setCell ⟨w.heap.size + 1, 1, none⟩ (.slice (some ⟨gg, 0, none⟩) (i + 1) cap2)) := Below.setCell (((hbn'.alloc (by omega) _).drew).grown hgrow (by simp; omega) (fun h hh => by have := own_base own hh; omega)) (by simp) _
          exact ⟨i + 1, _, _, _, by omega, by go_num, hS3, hb3⟩
        case measure => simp [intOf]; omega

      · go_wp2_with (first
          | (go_at_call 14; refine (def_any _ _).mono ?_; rintro e w' ⟨rfl, rfl⟩)
          | (go_at_call 15; refine (use_any _ _).mono ?_; rintro e w' ⟨rfl, rfl⟩)
          | (go_at_call 13; refine (op_any _ _ _ _ _).mono ?_; rintro e w' ⟨rfl, rfl⟩))
        obtain ⟨wn, hwn⟩ : ∃ wn, wn = ((((wc.alloc (.cells #[.int .i64 2, .int .i64 i, .bool true, .int .i64 1, .int .i64 0] 43)).alloc (.cells #[.int .i64 2, .int .i64 i, .bool true, .int .i64 1, .int .i64 0] 43)).alloc (.cells #[.int .i64 ((i : Int) % 256), .slice (some ⟨wc.heap.size + 1, 0, none⟩) 1 1, .slice none 0 0] 40)).alloc (.cells #[.int .i64 ((i : Int) % 256), .slice (some ⟨wc.heap.size + 1, 0, none⟩) 1 1, .slice none 0 0] 40)) := ⟨_, rfl⟩
        have zn : wn.heap.size = wc.heap.size + 1 + 1 + 1 + 1 := by rw [hwn]; simp
        have hbn : Below wc.heap.size wc wn := by
          rw [hwn]
          repeat (first | exact Below.refl _ _ | refine Below.alloc ?_ (by simp; try omega) _)
        have hSx := hS1.below hbn
        have x0 : wn.cell? ⟨wc.heap.size + 1 + 1 + 1, 0, none⟩ = some (.int .i64 ((i : Int) % 256)) := by rw [hwn]; go_simp
        have x1 : wn.cell? ⟨wc.heap.size + 1 + 1 + 1, 1, none⟩ = some (.slice (some ⟨wc.heap.size + 1, 0, none⟩) 1 1) := by rw [hwn]; go_simp
        have x2 : wn.cell? ⟨wc.heap.size + 1 + 1 + 1, 2, none⟩ = some (.slice none 0 0) := by rw [hwn]; go_simp
        have hoc : wn.heap[wc.heap.size + 1]? = some (.cells ((lnO i).flatMap cO).toArray 43) := by
          rw [hwn]
          rw [Below.heap_alloc _ _ _ (by simp), Below.heap_alloc _ _ _ (by simp)]
          have e : (lnO i).flatMap cO = [.int .i64 2, .int .i64 i, .bool true, .int .i64 1, .int .i64 0] := by have e0 : i = 0 := (by omega); subst e0; rfl
          rw [e]
          exact heap_atL (by simp)
        rw [← hwn]
        clear hwn
        obtain ⟨o0, ho0⟩ : ∃ o0, o0 = wc.heap.size + 1 := ⟨_, rfl⟩
        obtain ⟨xb, hxb⟩ : ∃ xb, xb = wc.heap.size + 1 + 1 + 1 := ⟨_, rfl⟩
        rw [← hxb] at x0 x1 x2 ⊢
        rw [← ho0] at x1 hoc ⊢
        have own := hSx.oi
        have b1 : wn.cell? ⟨w.heap.size + 1, 1, none⟩ = some vi := hSx.r1.cell (i := 1) (by omega)
        have zb := hSx.r1.frozen 1
        have f1 : wn.cell? ⟨w.heap.size + 1 + 1, 1, none⟩ = some (.slice (some ⟨w.heap.size + 1, 0, none⟩) 1 1) := hSx.r2.cell (i := 1) (by omega)
        have lB := hSx.r1.lt
        have lF := hSx.r2.lt
        have lX : xb < wn.heap.size := by omega
        have nB : some (w.heap.size + 1) ≠ vi.ownBlock := fun e => by have := own_base own e.symm; omega
        have nF : some (w.heap.size + 1 + 1) ≠ vi.ownBlock := fun e => by have := own_base own e.symm; omega
        have nX : some xb ≠ vi.ownBlock := fun e => by have := own_base hS1.oi e.symm; omega
        have nO : vi.ownBlock ≠ some o0 := fun e => by have := own_base hS1.oi e; omega
        have nV : (Value.slice (some ⟨g, 0, none⟩) (i + 1) cap).ownBlock ≠ some o0 := fun e => by have := own_base hS1.ov e; omega
        have nOb : ∀ k, k < i → ob k ≠ o0 := fun k hk e => by have := (hS1.obs k hk).lt; omega
        have lO : w.heap.size + 1 + 1 + 1 ≤ o0 ∧ o0 < wn.heap.size := by omega
        have dX : ¬ w.heap.size + 1 = xb := by omega
        have hbn' := hbs.trans (hbn.mono (by omega))
        have oA := (own.alloc (.cells #[.int .i64 ((i : Int) % 256), .slice (some ⟨o0, 0, none⟩) 1 1, .slice none 0 0] 40)).drew
        have LB := old_cell (w.heap.size + 1)
        have LF := old_cell (w.heap.size + 1 + 1)
        have LX := old_cell xb
        have cB : ((wn.alloc (.cells #[.int .i64 ((i : Int) % 256), .slice (some ⟨o0, 0, none⟩) 1 1, .slice none 0 0] 40)).drew).cell? ⟨w.heap.size + 1, 1, none⟩ = some vi := (LB _ _ _ lB).trans b1
        have cZ : ((wn.alloc (.cells #[.int .i64 ((i : Int) % 256), .slice (some ⟨o0, 0, none⟩) 1 1, .slice none 0 0] 40)).drew).frozen? ⟨w.heap.size + 1, 1, none⟩ = false := (frozen?_alloc_cells _ _ _ _).trans zb
        have cF : ((wn.alloc (.cells #[.int .i64 ((i : Int) % 256), .slice (some ⟨o0, 0, none⟩) 1 1, .slice none 0 0] 40)).drew).cell? ⟨w.heap.size + 1 + 1, 1, none⟩ = some (.slice (some ⟨w.heap.size + 1, 0, none⟩) 1 1) := (LF _ _ _ lF).trans f1
        have cX0 := (LX wn (.cells #[.int .i64 ((i : Int) % 256), .slice (some ⟨o0, 0, none⟩) 1 1, .slice none 0 0] 40) 0 lX).trans x0
        have cX1 := (LX wn (.cells #[.int .i64 ((i : Int) % 256), .slice (some ⟨o0, 0, none⟩) 1 1, .slice none 0 0] 40) 1 lX).trans x1
        have cX2 := (LX wn (.cells #[.int .i64 ((i : Int) % 256), .slice (some ⟨o0, 0, none⟩) 1 1, .slice none 0 0] 40) 2 lX).trans x2
        have lB' : (w.heap.size + 1) < ((wn.alloc (.cells #[.int .i64 ((i : Int) % 256), .slice (some ⟨o0, 0, none⟩) 1 1, .slice none 0 0] 40)).drew).heap.size := by simp; omega
        have lF' : (w.heap.size + 1 + 1) < ((wn.alloc (.cells #[.int .i64 ((i : Int) % 256), .slice (some ⟨o0, 0, none⟩) 1 1, .slice none 0 0] 40)).drew).heap.size := by simp; omega
        have lX' : xb < ((wn.alloc (.cells #[.int .i64 ((i : Int) % 256), .slice (some ⟨o0, 0, none⟩) 1 1, .slice none 0 0] 40)).drew).heap.size := by simp; omega
        have HN : Hid (∀ j u, ([.int .i64 ((i : Int) % 256), .slice (some ⟨o0, 0, none⟩) 1 1, .slice none 0 0] : List Value)[j]? = some u → ((wn.alloc (.cells #[.int .i64 ((i : Int) % 256), .slice (some ⟨o0, 0, none⟩) 1 1, .slice none 0 0] 40)).drew).cell? ((⟨wn.heap.size, 0, none⟩ : Addr).add j) = some u) := World.news_of_block (cs := #[.int .i64 ((i : Int) % 256), .slice (some ⟨o0, 0, none⟩) 1 1, .slice none 0 0]) (t := 40) (fr := (0, 0)) (heap_alloc_new wn _)
        have h1c : ∀ u ∈ ([.int .i64 ((i : Int) % 256), .slice (some ⟨o0, 0, none⟩) 1 1, .slice none 0 0] : List Value), u.oneCell' = true := by intro u hu; simp at hu; rcases hu with rfl | rfl | rfl <;> rfl
        have HM : Hid (wc.heap.size ≤ wn.heap.size) := hbn.size
        have HI : Hid (LineSt w.heap.size (i + 1) i (.slice (some ⟨g, 0, none⟩) (i + 1) cap) vi ob wn) := hSx
        have HO : Hid (wn.heap[o0]? = some (.cells ((lnO i).flatMap cO).toArray 43)) := hoc
        have eX : [.int .i64 ((i : Int) % 256), .slice (some ⟨o0, 0, none⟩) 1 1, .slice none 0 0] = lnX o0 i := by
          unfold lnX lnO
          rw [if_pos (by omega), Int.natCast_emod]; rfl
        have EX : Hid ([.int .i64 ((i : Int) % 256), .slice (some ⟨o0, 0, none⟩) 1 1, .slice none 0 0] = lnX o0 i) := eX
        clear hSx hoc eX hS1 hS ho0 hxb zn hbn hat hzb hgl hz1 hz0 hbs hbr o1
        refine wp_region_X (fun w' => w'.cell? ⟨w.heap.size + 1 + 1, 1, none⟩ = some (.slice (some ⟨w.heap.size + 1, 0, none⟩) 1 1) ∧ w'.cell? ⟨w.heap.size + 1, 1, none⟩ = some vi ∧ w'.cell? ⟨xb, 0, none⟩ = some (.int .i64 ((i : Int) % 256)) ∧ w'.cell? ⟨xb, 1, none⟩ = some (.slice (some ⟨o0, 0, none⟩) 1 1) ∧ w'.cell? ⟨xb, 2, none⟩ = some (.slice none 0 0)) 12 (by kernel_rfl) ⟨f1, b1, x0, x1, x2⟩ (fun hHeld => ?_)
        refine wpX_take0 (v := ?_) (by kernel_rfl) (fun _ _ _ h => h) rfl ?_ hHeld ?_
        rotate_left
        · intro w' hSw
          go_simp <;> with_reducible rfl
        simp only [Act.put, List.setIfInBounds_toArray, List.set_cons_zero, List.set_cons_succ]
        refine wpX_take1 (v := ?_) (by kernel_rfl) (fun _ _ _ h => h) rfl ?_ hHeld ?_
        rotate_left
        · intro w' hSw
          go_simp <;> with_reducible rfl
        simp only [Act.put, List.setIfInBounds_toArray, List.set_cons_zero, List.set_cons_succ]
        refine wpX_take2 (v := ?_) (by kernel_rfl) (fun _ _ _ h => h) rfl ?_ hHeld ?_
        rotate_left
        · intro w' hSw
          go_simp <;> with_reducible rfl
        simp only [Act.put, List.setIfInBounds_toArray, List.set_cons_zero, List.set_cons_succ]
        refine wpX_take3 (v := ?_) (by kernel_rfl) (fun _ _ _ h => h) rfl ?_ hHeld ?_
        rotate_left
        · intro w' hSw
          go_simp <;> with_reducible rfl
        simp only [Act.put, List.setIfInBounds_toArray, List.set_cons_zero, List.set_cons_succ]
        refine wpX_take4 (v := ?_) (by kernel_rfl) (fun _ _ _ h => h) rfl ?_ hHeld ?_
        rotate_left
        · intro w' hSw
          go_simp <;> with_reducible rfl
        simp only [Act.put, List.setIfInBounds_toArray, List.set_cons_zero, List.set_cons_succ]
        refine wpX_take5 (v := ?_) (by kernel_rfl) (fun _ _ _ h => h) rfl ?_ hHeld ?_
        rotate_left
        · intro w' hSw
          go_simp <;> with_reducible rfl
        simp only [Act.put, List.setIfInBounds_toArray, List.set_cons_zero, List.set_cons_succ]
        refine wpX_take6 (v := ?_) (by kernel_rfl) (fun _ _ _ h => h) rfl ?_ hHeld ?_
        rotate_left
        · intro w' hSw
          go_simp <;> with_reducible rfl
        simp only [Act.put, List.setIfInBounds_toArray, List.set_cons_zero, List.set_cons_succ]
        refine wpX_take7 (v := ?_) (by kernel_rfl) (fun _ _ _ h => h) rfl ?_ hHeld ?_
        rotate_left
        · intro w' hSw
          go_simp <;> with_reducible rfl
        simp only [Act.put, List.setIfInBounds_toArray, List.set_cons_zero, List.set_cons_succ]
        refine wpX_step8 (by kernel_rfl) (fun K hK => ?_)
        go_simp
        refine hK.out _ _ ⟨cF, cB, cX0, cX1, cX2⟩ (fun hHeld => ?_)
        clear hK K
        refine wpX_step9 (by kernel_rfl) (fun K hK => ?_)
        refine step_append_lies _ (by rfl) _ _ _ (by rfl) (w.heap.size + 1 + 1 + 1) 40 i30 _ 3 56 Try.underlying45 hi30 hz30 hz301 hz302 rfl (by omega) vi i (lnXs ob i) (by rfl) oA ⟨wn.heap.size, 0, none⟩ 1 1 [.int .i64 ((i : Int) % 256), .slice (some ⟨o0, 0, none⟩) 1 1, .slice none 0 0] (by rfl) (by rfl) HN.out h1c (by omega) (by unfold maxLen; omega) (by omega) (by simp; omega) (wn.heap.size + 1) (by simp) ?_
        intro gg cap2 wb2 hown1 hgrow hat2 hlt2
        have b1' := (hgrow.cell_far _ lB' nB).trans cB
        have zb' := (hgrow.frozen_far _ lB' nB).trans cZ
        have f1' := (hgrow.cell_far _ lF' nF).trans cF
        have x0' := (hgrow.cell_far _ lX' nX).trans cX0
        have x1' := (hgrow.cell_far _ lX' nX).trans cX1
        have x2' := (hgrow.cell_far _ lX' nX).trans cX2
        refine hK.out _ _ ⟨f1', b1', x0', x1', x2'⟩ (fun hHeld => ?_)
        clear hK K
        simp only [Act.put, List.setIfInBounds_toArray, List.set_cons_zero, List.set_cons_succ]
        refine wpX_step10 (by kernel_rfl) (fun K hK => ?_)
        go_simp
        refine hK.out _ _ ⟨f1', b1', x0', x1', x2'⟩ (fun hHeld => ?_)
        clear hK K
        refine wpX_take11 (v := ?_) (by kernel_rfl) (fun _ _ _ h => h) rfl ?_ hHeld ?_
        rotate_left
        · intro w' hSw
          go_simp <;> with_reducible rfl
        simp only [Act.put, List.setIfInBounds_toArray, List.set_cons_zero, List.set_cons_succ]
        refine wpX_last12 (by kernel_rfl) rfl (by kernel_rfl) (fun K hK => ?_)
        go_simp
        refine hK.out _ _ ?_
        clear hK K
        go_wp2
        go_roundw
        case rel =>
          have hS3 := HI.out.instr lO.1 lO.2 nV nO nOb HO.out (g := gg) (cap := cap2) (by rw [← EX.out]; exact hown1) (((Below.refl _ _).alloc (Nat.le_refl _) _).drew) hgrow (hat2.imp id fun h => by omega)
          have hb3 : Below (w.heap.size + 1) (w.alloc (.cells #[.slice none 0 0, .slice none 0 0] 25)) (wb2.setCell ⟨w.heap.size + 1, 1, none⟩ (.slice (some ⟨gg, 0, none⟩) (i + 1) cap2)) := Below.setCell (((hbn'.alloc (by omega) _).drew).grown hgrow (by simp; omega) (fun h hh => by have := own_base own hh; omega)) (by simp) _
          exact ⟨i + 1, _, _, _, by omega, by go_num, hS3, hb3⟩
        case measure => simp [intOf]; omega

    · have hin : i = n := by omega
      subst hin
      have c20 : wr.cell? ⟨w.heap.size + 1 + 1, 0, none⟩ = some vv := hS.r2.cell (i := 0) (by omega)
      have c21 : wr.cell? ⟨w.heap.size + 1 + 1, 1, none⟩ = some (.slice (some ⟨w.heap.size + 1, 0, none⟩) 1 1) := hS.r2.cell (i := 1) (by omega)
      have c00 : wr.cell? ⟨w.heap.size, 0, none⟩ = some (.slice none 0 0) := (hbr.cell (by simp)).trans (by go_simp)
      have c01 : wr.cell? ⟨w.heap.size, 1, none⟩ = some (.slice none 0 0) := (hbr.cell (by simp)).trans (by go_simp)
      have z00 : wr.frozen? ⟨w.heap.size, 0, none⟩ = false := (hbr.frozen (by simp)).trans (by go_simp)
      have z01 : wr.frozen? ⟨w.heap.size, 1, none⟩ = false := (hbr.frozen (by simp)).trans (by go_simp)
      obtain ⟨avv, cvv, rfl⟩ := own_formL hS.ov
      have hl0 := hS.r1.lt
      have hbX : Below w.heap.size w ((wr.setCell ⟨w.heap.size, 0, none⟩ (.slice avv i cvv)).setCell ⟨w.heap.size, 1, none⟩ (.slice (some ⟨w.heap.size + 1, 0, none⟩) 1 1)) := Below.setCell (Below.setCell (((Below.refl _ _).alloc (Nat.le_refl _) _).trans (hbr.mono (by omega))) (by simp) _) (by simp) _
      have hSX := hS.after w.heap.size (by omega) (by omega) (w' := (wr.setCell ⟨w.heap.size, 0, none⟩ (.slice avv i cvv)).setCell ⟨w.heap.size, 1, none⟩ (.slice (some ⟨w.heap.size + 1, 0, none⟩) 1 1)) (by simp) (fun b hb => by rw [Below.heap_setCell _ _ _ _ (by simpa using hb), Below.heap_setCell _ _ _ _ (by simpa using hb)])
      obtain ⟨WX, hWX⟩ : ∃ WX, WX = (wr.setCell ⟨w.heap.size, 0, none⟩ (.slice avv i cvv)).setCell ⟨w.heap.size, 1, none⟩ (.slice (some ⟨w.heap.size + 1, 0, none⟩) 1 1) := ⟨_, rfl⟩
      have d0 : WX.cell? ⟨w.heap.size, 0, none⟩ = some (.slice avv i cvv) := by rw [hWX]; go_simp
      have d1 : WX.cell? ⟨w.heap.size, 1, none⟩ = some (.slice (some ⟨w.heap.size + 1, 0, none⟩) 1 1) := by rw [hWX]; go_simp
      rw [← hWX] at hbX hSX
      have HW : Hid (WX = (wr.setCell ⟨w.heap.size, 0, none⟩ (.slice avv i cvv)).setCell ⟨w.heap.size, 1, none⟩ (.slice (some ⟨w.heap.size + 1, 0, none⟩) 1 1)) := hWX
      clear hWX
      go_wp2
      rw [← HW.out]
      exact bodyPost_ret (v := .agg #[.slice avv i cvv, .slice (some ⟨w.heap.size + 1, 0, none⟩) 1 1]) (by simp [results, Try.results20, go_sem, d0, d1]) rfl ⟨_, vi, ob, rfl, hSX, hbX⟩
end Go.Proofs.Ytengmgdnpojfjaa
