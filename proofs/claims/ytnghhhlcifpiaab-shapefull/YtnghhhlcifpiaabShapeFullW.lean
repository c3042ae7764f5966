/-
  The walk through 'ShapeFull': it answers true for all numbers, and writes to nothing that was there.
-/
import Derived.Test.YtnghhhlcifpiaabShapeFullS
namespace Go.Proofs.Ytnghhhlcifpiaab
open Go.RowKit
set_option linter.unusedVariables false

theorem own_form {w : World} {base e k n : Nat} {v : Value} {xs : List Value} (h : w.ownsRow base e k v n xs) : ∃ a cap, v = .slice a n cap := by
  rcases h.2 with ⟨rfl, rfl⟩ | ⟨g, cap, cur, rfl, _⟩
  · exact ⟨none, 0, rfl⟩
  · exact ⟨_, _, rfl⟩
theorem news1 {w : World} {ob : Obj} {cs : Array Value} {t : Nat} (h : ob = .cells cs t) : ∀ j u, cs.toList[j]? = some u → (w.alloc ob).cell? ((⟨w.heap.size, 0, none⟩ : Addr).add j) = some u := by
  subst h
  exact World.news_of_block (heap_alloc_new w _)

set_option maxHeartbeats 4000000 in
theorem shapeFull_walk (a n sp : Int) (w : World) (ua : -9223372036854775808 ≤ a) (ua' : a ≤ 9223372036854775807) (un : -9223372036854775808 ≤ n) (un' : n ≤ 9223372036854775807) (us : -9223372036854775808 ≤ sp) (us' : sp ≤ 9223372036854775807) :
    Calls Try.prog 3 #[.int .i64 a, .int .i64 n, .int .i64 sp] w fun e w' => e = .returned (.bool true) ∧ Below w.heap.size w w' := by
  obtain ⟨i3, hi3, hz3, hz31, hz32⟩ := info_parts info3
  obtain ⟨i36, hi36, hz36, hz361, hz362⟩ := info_parts infoO
  obtain ⟨i38, hi38, hz38, hz381, hz382⟩ := info_parts infoR
  obtain ⟨pa, pa'⟩ := pickedOf_bd a 9 (by omega)
  obtain ⟨pn, pn'⟩ := pickedOf_bd n 7 (by omega)
  go_enter Try.func3, Try.ntmps3
  go_wp2_with fail
  refine (machine_any a a _ ua ua' ua ua').mono ?_
  rintro e w1 ⟨rfl, hb1⟩
  have hz1 := hb1.size
  generalize pickedOf a 9 = p at *
  go_wp2_with fail
  refine (picked_any _ _ _ un un' (by omega) (by omega)).mono ?_
  rintro e w' ⟨rfl, rfl⟩
  generalize pickedOf n 7 = kk at *
  obtain ⟨k, rfl⟩ : ∃ k : Nat, kk = k := ⟨kk.toNat, by omega⟩
  go_wp2_with fail
  obtain ⟨ps, ps'⟩ := pickedOf_bd sp (2 + p + 1) (by omega)
  refine (picked_any _ _ _ us us' (by omega) (by omega)).mono ?_
  rintro e w' ⟨rfl, rfl⟩
  generalize pickedOf sp (2 + p + 1) = ss at *
  obtain ⟨s, rfl⟩ : ∃ s : Nat, ss = s := ⟨ss.toNat, by omega⟩
  go_wp2_with fail
  go_loopw [12] (fun t wr => ∃ (i : Nat) (vv vo : Value), i ≤ k ∧ t = .int .i64 i ∧ FullSt w1.heap.size (2 + p) vv vo (.slice none 0 0) i i 0 wr ∧ Below w1.heap.size w1 wr ∧ w1.heap.size + 1 + 1 < wr.heap.size) (fun t _ => k - (intOf t).toNat)
  case atStart => exact ⟨0, .slice none 0 0, .slice none 0 0, Nat.zero_le _, rfl, fullSt0 w1 (2 + p), (((Below.refl _ _).alloc (Nat.le_refl _) _).alloc (by simp) _).alloc (by simp; omega) _, by simp⟩
  case round =>
    obtain ⟨i, vv, vo, hi, rfl, hS, hbr, hz⟩ := hrel
    by_cases hlt : i < k
    · have o1 := hS.2.2.2.1
      have c20 : wr.cell? ⟨w1.heap.size + 1 + 1, 0, none⟩ = some vv := hS.2.2.1.cell (i := 0) (by omega)
      have oA := o1.alloc (.cells #[.int .i64 0] 3)
      go_wp2_with (at_builtin; go_must (refine wpList_append_lies _ rfl _ _ 31 rfl (w1.heap.size + 1 + 1 + 1) 3 i3 (.int .i64 0) 1 8 Try.underlying31 hi3 hz3 hz31 hz32 rfl (by omega) vv i _ (by rfl) oA ⟨wr.heap.size, 0, none⟩ 1 1 [.int .i64 0] (by rfl) (by rfl) ?c1 ?c2 (by omega) ?c3 ?c4 ?c5 (wr.heap.size + 1) ?c6 ?_))
      case c1 => exact news1 rfl
      case c2 => intro u hu; simp at hu; subst hu; rfl
      case c3 => unfold maxLen; omega
      case c4 => omega
      case c5 => simp; omega
      case c6 => simp
      intro g cap wb hown hgrow hat hgl
      obtain ⟨q2, q1, hS1⟩ := hS.vals hz hown hgrow hat
      have hzb := hgrow.size
      simp at hzb
      have f2 := q2.frozen 0
      have x2 : wb.cell? ⟨w1.heap.size + 1 + 1, 0, none⟩ = some vv := q2.cell (i := 0) (by omega)
      have x1 : wb.cell? ⟨w1.heap.size + 1, 1, none⟩ = some vo := q1.cell (i := 1) (by omega)
      have hbb : Below w1.heap.size w1 wb := (hbr.alloc (by omega) _).grown hgrow (by simp; omega) (fun h hh => by have := own_base o1 hh; omega)
      have hbs : Below w1.heap.size w1 (wb.setCell ⟨w1.heap.size + 1 + 1, 0, none⟩ (.slice (some ⟨g, 0, none⟩) (i + 1) cap)) := hbb.setCell (by simp; omega) _
      obtain ⟨wc, hwc⟩ : ∃ wc, wc = wb.setCell ⟨w1.heap.size + 1 + 1, 0, none⟩ (.slice (some ⟨g, 0, none⟩) (i + 1) cap) := ⟨_, rfl⟩
      have hzc : wc.heap.size = wb.heap.size := by rw [hwc]; simp
      have HC : Hid (wc = wb.setCell ⟨w1.heap.size + 1 + 1, 0, none⟩ (.slice (some ⟨g, 0, none⟩) (i + 1) cap)) := hwc
      have HZC : Hid (wc.heap.size = wb.heap.size) := hzc
      rw [← hwc] at hS1 hbs
      clear hwc hzc oA hown hgrow c20
      have o2 := hS1.2.2.2.2.1
      have oB : (wb.setCell ⟨w1.heap.size + 1 + 1, 0, none⟩ (.slice (some ⟨g, 0, none⟩) (i + 1) cap)).ownsRow (w1.heap.size + 1 + 1 + 1) 36 5 vo i ((opl i).flatMap cO) := by rw [← HC.out]; exact o2
      have oC := oB.alloc (.cells #[.int .i64 2, .int .i64 i, .bool true, .int .i64 2, .int .i64 0] 36)
      go_wp2_with (at_builtin; go_must (refine wpList_append_lies _ rfl _ _ 27 rfl (w1.heap.size + 1 + 1 + 1) 36 i36 _ 5 40 Try.underlying27 hi36 hz36 hz361 hz362 rfl (by omega) vo i _ (by rfl) oC ⟨wb.heap.size, 0, none⟩ 1 1 [.int .i64 2, .int .i64 i, .bool true, .int .i64 2, .int .i64 0] (by rfl) (by rfl) ?c1 ?c2 (by omega) ?c3 ?c4 ?c5 (wb.heap.size + 1) ?c6 ?_))
      case c1 =>
        have hn := news1 (w := wc) (ob := .cells #[.int .i64 2, .int .i64 i, .bool true, .int .i64 2, .int .i64 0] 36) rfl
        rw [HZC.out, HC.out] at hn
        exact hn
      case c2 => intro u hu; simp at hu; rcases hu with rfl | rfl | rfl | rfl | rfl <;> rfl
      case c3 => unfold maxLen; omega
      case c4 => omega
      case c5 => simp; omega
      case c6 => simp
      intro g2 cap2 wd hown2 hgrow2 hat2 hgl2
      rw [← HC.out] at hgrow2
      have hzc := HZC.out
      obtain ⟨q2', q1', hS2⟩ := hS1.oprs (by omega) hown2 hgrow2 (by rw [hzc]; exact hat2)
      have hzd := hgrow2.size
      simp at hzd
      have hzd2 : wb.heap.size + 1 ≤ wd.heap.size := by rw [← HZC.out]; exact hzd
      have f1 := q1'.frozen 1
      have x1' : wd.cell? ⟨w1.heap.size + 1, 1, none⟩ = some vo := q1'.cell (i := 1) (by omega)
      have hbd : Below w1.heap.size w1 wd := (hbs.alloc (by omega) _).grown hgrow2 (by simp; omega) (fun h hh => by have := own_base o2 hh; omega)
      have hbe : Below w1.heap.size w1 (wd.setCell ⟨w1.heap.size + 1, 1, none⟩ (.slice (some ⟨g2, 0, none⟩) (i + 1) cap2)) := hbd.setCell (by simp) _
      clear hzc hown2 hgrow2 oB oC x1 x2 f2
      go_wp2
      go_roundw
      case rel => exact ⟨i + 1, _, _, by omega, by go_num, hS2, hbe, by simp; omega⟩
      case measure => simp [intOf]; omega
    · have hik : i = k := by omega
      subst hik
      go_wp2_with fail
      go_loopw [13] (fun t wr => ∃ (j : Nat) (vs : Value), j ≤ s ∧ t = .int .i64 j ∧ FullSt w1.heap.size (2 + p) vv vo vs i i j wr ∧ Below w1.heap.size w1 wr ∧ w1.heap.size + 1 + 1 < wr.heap.size) (fun t _ => s - (intOf t).toNat)
      case atStart => exact ⟨0, .slice none 0 0, Nat.zero_le _, rfl, hS, hbr, hz⟩
      case round =>
        clear hS hbr hz
        obtain ⟨j, vs, hj, rfl, hS, hbr, hz⟩ := hrel
        by_cases hlt : j < s
        · have o3 := hS.2.2.2.2.2.1
          have c12 : wr.cell? ⟨w1.heap.size + 1, 2, none⟩ = some vs := hS.2.1.cell (i := 2) (by omega)
          have oA := o3.alloc (.cells #[.int .i64 0, .int .i64 j] 38)
          go_wp2_with (at_builtin; go_must (refine wpList_append_lies _ rfl _ _ 28 rfl (w1.heap.size + 1 + 1 + 1) 38 i38 _ 2 16 Try.underlying28 hi38 hz38 hz381 hz382 rfl (by omega) vs j _ (by rfl) oA ⟨wr.heap.size, 0, none⟩ 1 1 [.int .i64 0, .int .i64 j] (by rfl) (by rfl) ?c1 ?c2 (by omega) ?c3 ?c4 ?c5 (wr.heap.size + 1) ?c6 ?_))
          case c1 => exact news1 rfl
          case c2 => intro u hu; simp at hu; rcases hu with rfl | rfl <;> rfl
          case c3 => unfold maxLen; omega
          case c4 => omega
          case c5 => simp; omega
          case c6 => simp
          intro g cap wb hown hgrow hat hgl
          obtain ⟨q2, q1, hS1⟩ := hS.spls hz hown hgrow hat
          have hzb := hgrow.size
          simp at hzb
          have f2 := q1.frozen 2
          have x2 : wb.cell? ⟨w1.heap.size + 1, 2, none⟩ = some vs := q1.cell (i := 2) (by omega)
          have hbb : Below w1.heap.size w1 wb := (hbr.alloc (by omega) _).grown hgrow (by simp; omega) (fun h hh => by have := own_base o3 hh; omega)
          have hbs : Below w1.heap.size w1 (wb.setCell ⟨w1.heap.size + 1, 2, none⟩ (.slice (some ⟨g, 0, none⟩) (j + 1) cap)) := hbb.setCell (by simp) _
          clear oA hown hgrow c12
          go_wp2
          go_roundw
          case rel => exact ⟨j + 1, _, by omega, by go_num, hS1, hbs, by simp; omega⟩
          case measure => simp [intOf]; omega
        · have hjs : j = s := by omega
          subst hjs
          obtain ⟨r0, r1, r2, o1, o2, o3, ap12, ap13, ap23⟩ := hS
          obtain ⟨avv, cvv, rfl⟩ := own_form o1
          obtain ⟨avo, cvo, rfl⟩ := own_form o2
          obtain ⟨avs, cvs, rfl⟩ := own_form o3
          have c10 : wr.cell? ⟨w1.heap.size + 1, 0, none⟩ = some (.int .i64 0) := r1.cell (i := 0) (by omega)
          have c11 : wr.cell? ⟨w1.heap.size + 1, 1, none⟩ = some (.slice avo i cvo) := r1.cell (i := 1) (by omega)
          have c12 : wr.cell? ⟨w1.heap.size + 1, 2, none⟩ = some (.slice avs j cvs) := r1.cell (i := 2) (by omega)
          have c20 : wr.cell? ⟨w1.heap.size + 1 + 1, 0, none⟩ = some (.slice avv i cvv) := r2.cell (i := 0) (by omega)
          have c21 : wr.cell? ⟨w1.heap.size + 1 + 1, 1, none⟩ = some (.slice none 0 0) := r2.cell (i := 1) (by omega)
          have f21 := r2.frozen 1
          have c00 : wr.cell? ⟨w1.heap.size, 0, none⟩ = some (.int .i64 (2 + p)) := r0.cell (i := 0) (by omega)
          have c01 : wr.cell? ⟨w1.heap.size, 1, none⟩ = some (.int .i64 (2 + p)) := r0.cell (i := 1) (by omega)
          have L0 := old_cell w1.heap.size
          have L1 := old_cell (w1.heap.size + 1)
          have L2 := old_cell (w1.heap.size + 1 + 1)
          have l0 : w1.heap.size < wr.heap.size := by omega
          have l1 : w1.heap.size + 1 < wr.heap.size := by omega
          obtain ⟨WX, hWX⟩ : ∃ WX, WX = ((wr.setCell ⟨w1.heap.size + 1 + 1, 1, none⟩ (.slice (some ⟨wr.heap.size + 1, 0, none⟩) 1 1)).alloc (.cells #[.int .i64 0, .slice avo i cvo, .slice avs j cvs] 30)).alloc (.cells #[.slice none 0 0, .slice (some ⟨wr.heap.size, 0, none⟩) 1 1, .slice none 0 0] 42) := ⟨_, rfl⟩
          have zX : WX.heap.size = wr.heap.size + 1 + 1 := by rw [hWX]; simp
          have kept : ∀ h, w1.heap.size + 1 + 1 + 1 ≤ h → h < wr.heap.size → WX.heap[h]? = wr.heap[h]? := fun h hb hlt => by
            rw [hWX, Below.heap_alloc _ _ _ (by simp; omega), Below.heap_alloc _ _ _ (by simp; omega)]
            exact Below.heap_setCell _ _ _ _ (by show h ≠ w1.heap.size + 1 + 1; omega)
          have v1 := own_ints _ (own_keep (w' := WX) o1 fun h _ hb hlt => kept h hb hlt) (by unfold longest; omega)
          have v2 := own_oprs _ (own_keep (w' := WX) o2 fun h _ hb hlt => kept h hb hlt) (by unfold longest; omega)
          have v3 := own_rgs _ (own_keep (w' := WX) o3 fun h _ hb hlt => kept h hb hlt) (by unfold longest; omega)
          have y0 : WX.cell? ⟨wr.heap.size, 0, none⟩ = some (.int .i64 0) := by rw [hWX]; go_simp
          have y1 : WX.cell? ⟨wr.heap.size, 1, none⟩ = some (.slice avo i cvo) := by rw [hWX]; go_simp
          have y2 : WX.cell? ⟨wr.heap.size, 2, none⟩ = some (.slice avs j cvs) := by rw [hWX]; go_simp
          have x0 : WX.cell? ⟨wr.heap.size + 1, 0, none⟩ = some (.slice none 0 0) := by rw [hWX]; go_simp
          have x1 : WX.cell? ⟨wr.heap.size + 1, 1, none⟩ = some (.slice (some ⟨wr.heap.size, 0, none⟩) 1 1) := by rw [hWX]; go_simp
          have x2 : WX.cell? ⟨wr.heap.size + 1, 2, none⟩ = some (.slice none 0 0) := by rw [hWX]; go_simp
          have mX : WX.cell? ⟨w1.heap.size, 0, none⟩ = some (.int .i64 (2 + p)) := by rw [hWX]; go_simp
          have hbX : Below w1.heap.size w1 WX := by rw [hWX]; exact ((hbr.setCell (by simp; omega) _).alloc (by simp; omega) _).alloc (by simp; omega) _
          have hb : SlOf WX 3 (RBlk WX) (.slice (some ⟨wr.heap.size + 1, 0, none⟩) 1 1) (fullF i j).blocks :=
            SlOf_one [.slice none 0 0, .slice (some ⟨wr.heap.size, 0, none⟩) 1 1, .slice none 0 0] rfl ⟨_, _, _, rfl, SlOf_nil _ _ _ _ _, SlOf_one [.int .i64 0, .slice avo i cvo, .slice avs j cvs] rfl ⟨_, _, rfl, v2, v3⟩ (cells3 y0 y1 y2), SlOf_nil _ _ _ _ _⟩ (cells3 x0 x1 x2)
          have HX : Hid (WX = ((wr.setCell ⟨w1.heap.size + 1 + 1, 1, none⟩ (.slice (some ⟨wr.heap.size + 1, 0, none⟩) 1 1)).alloc (.cells #[.int .i64 0, .slice avo i cvo, .slice avs j cvs] 30)).alloc (.cells #[.slice none 0 0, .slice (some ⟨wr.heap.size, 0, none⟩) 1 1, .slice none 0 0] 42)) := hWX
          clear hWX y0 y1 y2 x0 x1 x2
          obtain ⟨m, hm⟩ : ∃ m : Nat, 2 + p = m := ⟨(2 + p).toNat, by omega⟩
          have hr := fullF_ok i (by omega) m (by omega) (by omega) j (by omega)
          rw [← hm] at hr
          by_cases hlt2 : i + j < m
          · rw [if_pos hlt2] at hr
            have g1 : (i : Int) + (j : Int) < 2 + p := by omega
            clear hm
            go_wp2_with fail
            rw [← HX.out]
            refine (check_is (fullF i j) (2 + p) (2 + p) _ _ _ 0 hr v1 hb).mono ?_
            rintro e w2 ⟨rfl, hb2⟩
            have m2 : w2.cell? ⟨w1.heap.size, 0, none⟩ = some (.int .i64 (2 + p)) := (hb2.cell (by show w1.heap.size < _; omega)).trans mX
            go_wp2
            go_ret
            exact ⟨rfl, hb1.trans ((hbX.mono hz1).trans (hb2.mono (by omega)))⟩
          · rw [if_neg hlt2] at hr
            have g1 : ¬ (i : Int) + (j : Int) < 2 + p := by omega
            clear hm
            go_wp2_with fail
            rw [← HX.out]
            refine (check_is (fullF i j) (2 + p) (2 + p) _ _ _ 8 hr v1 hb).mono ?_
            rintro e w2 ⟨rfl, hb2⟩
            have m2 : w2.cell? ⟨w1.heap.size, 0, none⟩ = some (.int .i64 (2 + p)) := (hb2.cell (by show w1.heap.size < _; omega)).trans mX
            go_wp2
            go_ret
            exact ⟨rfl, hb1.trans ((hbX.mono hz1).trans (hb2.mono (by omega)))⟩
end Go.Proofs.Ytnghhhlcifpiaab
