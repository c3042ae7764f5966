/-
  The contracts of the reference's 'Mixed', 'joinedInts', 'madeBy' and 'edgeTaken'.
-/
import Derived.Test.YtmkloakahefjiaaR1
namespace Go.Proofs.Ytmkloakahefjiaa
open Go.RowKit
set_option linter.unusedVariables false

set_option maxHeartbeats 2000000 in
theorem mixedR_any (l : List Int) (a : Option Addr) (n c : Nat) (r : Int) (w : World) (hn : l.length = n) (h1 : SlOf w 1 RInt (.slice a n c) l) (hr : mixL 7 l = r) :
    Calls Try.prog 24 #[.slice a n c] w fun e w' => e = .returned (.int .i64 r) ∧ w' = w := by
  subst hn
  have lb : l.length ≤ longest := by
    obtain ⟨_, _, _, h⟩ := h1.out
    exact h
  unfold longest at lb
  have HA : Hid (SlOf w 1 RInt (.slice a l.length c) l) := h1
  have HR : Hid (mixL 7 l = r) := hr
  clear h1 hr
  go_enter Try.func24, Try.ntmps24
  go_wp2_with fail
  go_loopw [4, 3] (fun i x wr => ∃ (k : Nat) (y : Int), k ≤ l.length ∧ i = .int .i64 k ∧ x = .int .i64 y ∧ 0 ≤ y ∧ y < 1000003 ∧ wr = w ∧ Hid (mixL y (l.drop k) = r)) (fun i _ _ => l.length - (intOf i).toNat)
  case atStart => exact ⟨0, 7, Nat.zero_le _, rfl, rfl, by decide, by decide, rfl, HR.out⟩
  case round =>
    obtain ⟨k, y, hk, rfl, rfl, hy, hy', rfl, HI⟩ := hrel
    by_cases hlt : k < l.length
    · obtain ⟨b1, o1, rfl, hb1, e1⟩ := ru_at HA.out k hlt
      have hI := HI.out
      rw [mixL_drop _ _ _ hlt] at hI
      have HN : Hid (mixL (mixN y (l.getD k 0)) (l.drop (k + 1)) = r) := hI
      clear hI HI
      generalize l.getD k 0 = x at *
      obtain ⟨q, hq, hq0, hq1, hq2⟩ := tmod_cases x
      by_cases hqn : q < 0
      · have HQ : Hid ((31 * y + (q + 1000003)) % 1000003 = mixN y x) := by
          show _ = _
          have := hq2 (31 * y)
          unfold mixN
          omega
        clear hq2
        go_wp2
        go_roundw
        case rel => exact ⟨k + 1, mixN y x, by omega, by go_num, by rw [HQ.out], (mixN_bd _ _).1, (mixN_bd _ _).2, trivial, HN.out⟩
        case measure => simp [intOf]; omega
      · have HQ : Hid ((31 * y + q) % 1000003 = mixN y x) := by
          show _ = _
          have := hq2 (31 * y)
          unfold mixN
          omega
        clear hq2
        go_wp2
        go_roundw
        case rel => exact ⟨k + 1, mixN y x, by omega, by go_num, by rw [HQ.out], (mixN_bd _ _).1, (mixN_bd _ _).2, trivial, HN.out⟩
        case measure => simp [intOf]; omega
    · have H : Hid (y = r) := by
        show _ = _
        rw [← HI.out, mixL_end _ _ _ (by omega)]
      clear HI
      go_wp2
      go_ret
      exact ⟨ret_int H.out, rfl⟩

set_option maxHeartbeats 4000000 in
theorem joined_ints (l1 l2 : List Int) (a1 a2 : Option Addr) (n1 n2 c1 c2 : Nat) (w : World) (hn1 : l1.length = n1) (hn2 : l2.length = n2) (h1 : SlOf w 1 RInt (.slice a1 n1 c1) l1) (h2 : SlOf w 1 RInt (.slice a2 n2 c2) l2) (hfew : (n1 + n2) * 8 ≤ 140737488355328) :
    Calls Try.prog 25 #[.slice a1 n1 c1, .slice a2 n2 c2] w fun e w' => ∃ a c, e = .returned (.slice a (n1 + n2) c) ∧ SlOf w' 1 RInt (.slice a (n1 + n2) c) (l1 ++ l2) ∧ Below w.heap.size w w' := by
  obtain ⟨i3, hi3, hz3, hz31, hz32⟩ := ru_parts ruInfo
  obtain ⟨N, hN⟩ : ∃ N, w.heap.size = N := ⟨_, rfl⟩
  have HN : Hid (w.heap.size = N) := hN
  have H1 : Hid (SlOf w 1 RInt (.slice a1 n1 c1) l1 ∧ l1.length = n1) := ⟨h1, hn1⟩
  have H2 : Hid (SlOf w 1 RInt (.slice a2 n2 c2) l2 ∧ l2.length = n2) := ⟨h2, hn2⟩
  have HS0 : Hid (GrS w N (.slice none 0 0) [] w) := by rw [← hN]; exact GrS.nil w
  clear h1 h2 hn1 hn2 hN
  go_enter Try.func25, Try.ntmps25
  go_wp2_with fail
  go_loopw [6, 5] (fun i s wr => ∃ (k : Nat) (as' : Option Addr) (cs' : Nat), k ≤ n1 ∧ i = .int .i64 k ∧ s = .slice as' k cs' ∧ Hid (GrS w N (.slice as' k cs') (l1.take k) wr)) (fun i _ _ => n1 - (intOf i).toNat)
  case atStart => exact ⟨0, _, _, Nat.zero_le _, rfl, rfl, by simpa using HS0⟩
  case round =>
    clear HS0
    obtain ⟨k, as', cs', hk, rfl, rfl, HI⟩ := hrel
    by_cases hlt : k < n1
    · have hkl : k < l1.length := by rw [H1.out.2]; exact hlt
      obtain ⟨b1, o1, rfl, hb1, e0⟩ := ru_at H1.out.1 k hkl
      have e1 := (HI.out.low.cell (p := ⟨b1, o1 + k, none⟩) (by rw [← HN.out]; exact hb1)).trans e0
      have ht : Hid (l1.take (k + 1) = l1.take k ++ [l1.getD k 0]) := by
        show _ = _
        rw [List.take_add_one, List.getElem?_eq_getElem hkl, List.getD_eq_getElem?_getD, List.getElem?_eq_getElem hkl]
        rfl
      have HTL : Hid ((l1.take k).length = k) := by show _ = _; rw [List.length_take]; omega
      clear e0
      generalize l1.getD k 0 = x at *
      have hle := HI.out.le
      have own := HI.out.own
      rw [HTL.out] at own
      have oA := own.alloc (.cells #[.int .i64 x] 3)
      go_wp2_with (at_builtin; go_must (refine wpList_append_lies _ rfl _ _ 22 rfl N 3 i3 (.int .i64 0) 1 8 Try.underlying22 hi3 hz3 hz31 hz32 rfl (by omega) (.slice as' k cs') k _ (by rfl) oA ⟨wr.heap.size, 0, none⟩ 1 1 [.int .i64 x] (by rfl) (by rfl) ?e1 ?e2 (by omega) ?e3 ?e4 ?e5 (wr.heap.size + 1) ?e6 ?_))
      rotate_left
      any_goals (first | (exact ru_news rfl) | rfl | (show Value.oneCell' _ = true; simp [Value.oneCell']) | (intro u hu; simp at hu; subst hu; rfl) | (unfold maxLen; omega) | omega | (simp; omega) | (simp; rfl) | (simp; done))
      intro g cap wb hown hgrow hat hgl
      have HP : Hid (GrS w N (.slice (some ⟨g, 0, none⟩) (k + 1) cap) (l1.take (k + 1)) wb) := by
        show GrS _ _ _ _ _
        rw [ht.out]
        exact (HI.out.below ((Below.refl _ _).alloc (Nat.le_refl _) _)).push (by rw [HTL.out]; rfl) hgrow hown
      clear hown hgrow hat hgl oA own HI ht HTL e1
      go_wp2
      go_roundw
      case rel => exact ⟨k + 1, _, _, by omega, by go_num, rfl, HP⟩
      case measure => simp [intOf]; omega
    · have hkn : k = n1 := by omega
      subst hkn
      have HS : Hid (GrS w N (.slice as' k cs') (l1 ++ l2.take 0) wr) := by
        show GrS _ _ _ _ _
        rw [List.take_zero, List.append_nil]
        have := HI.out
        rw [List.take_of_length_le (by have := H1.out.2; omega)] at this
        exact this
      clear HI hk hlt
      go_wp2_with fail
      go_loopw [7, 5] (fun i s wr => ∃ (j : Nat) (as' : Option Addr) (cs' : Nat), j ≤ n2 ∧ i = .int .i64 j ∧ s = .slice as' (k + j) cs' ∧ Hid (GrS w N (.slice as' (k + j) cs') (l1 ++ l2.take j) wr)) (fun i _ _ => n2 - (intOf i).toNat)
      case atStart => exact ⟨0, _, _, Nat.zero_le _, rfl, rfl, HS⟩
      case round =>
        clear HS
        obtain ⟨j, as', cs', hj, rfl, rfl, HI⟩ := hrel
        by_cases hlt : j < n2
        · have hkl : j < l2.length := by rw [H2.out.2]; exact hlt
          obtain ⟨b1, o1, rfl, hb1, e0⟩ := ru_at H2.out.1 j hkl
          have e1 := (HI.out.low.cell (p := ⟨b1, o1 + j, none⟩) (by rw [← HN.out]; exact hb1)).trans e0
          have ht : Hid (l2.take (j + 1) = l2.take j ++ [l2.getD j 0]) := by
            show _ = _
            rw [List.take_add_one, List.getElem?_eq_getElem hkl, List.getD_eq_getElem?_getD, List.getElem?_eq_getElem hkl]
            rfl
          have HTL : Hid ((l1 ++ l2.take j).length = k + j) := by show _ = _; rw [List.length_append, List.length_take, H1.out.2]; omega
          clear e0
          generalize l2.getD j 0 = x at *
          have hle := HI.out.le
          have own := HI.out.own
          rw [HTL.out] at own
          have oA := own.alloc (.cells #[.int .i64 x] 3)
          go_wp2_with (at_builtin; go_must (refine wpList_append_lies _ rfl _ _ 22 rfl N 3 i3 (.int .i64 0) 1 8 Try.underlying22 hi3 hz3 hz31 hz32 rfl (by omega) (.slice as' (k + j) cs') (k + j) _ (by rfl) oA ⟨wr.heap.size, 0, none⟩ 1 1 [.int .i64 x] (by rfl) (by rfl) ?f1 ?f2 (by omega) ?f3 ?f4 ?f5 (wr.heap.size + 1) ?f6 ?_))
          rotate_left
          any_goals (first | (exact ru_news rfl) | rfl | (show Value.oneCell' _ = true; simp [Value.oneCell']) | (intro u hu; simp at hu; subst hu; rfl) | (unfold maxLen; omega) | omega | (simp; omega) | (simp; rfl) | (simp; done))
          intro g cap wb hown hgrow hat hgl
          have HP : Hid (GrS w N (.slice (some ⟨g, 0, none⟩) (k + (j + 1)) cap) (l1 ++ l2.take (j + 1)) wb) := by
            show GrS _ _ _ _ _
            rw [ht.out, ← List.append_assoc, ← Nat.add_assoc]
            exact (HI.out.below ((Below.refl _ _).alloc (Nat.le_refl _) _)).push (m := k + j + 1) (by rw [HTL.out]; rfl) hgrow (by rw [List.flatMap_append, List.append_assoc]; exact hown)
          clear hown hgrow hat hgl oA own HI ht HTL e1
          go_wp2
          go_roundw
          case rel => exact ⟨j + 1, _, _, by omega, by go_num, rfl, HP⟩
          case measure => simp [intOf]; omega
        · have hjn : j = n2 := by omega
          subst hjn
          have HE : Hid (SlOf wr 1 RInt (.slice as' (k + j) cs') (l1 ++ l2) ∧ Below w.heap.size w wr) := by
            have := HI.out
            rw [List.take_of_length_le (by have := H2.out.2; omega)] at this
            exact ⟨this.sl (by rw [List.length_append, H1.out.2, H2.out.2]; unfold longest; omega), by rw [HN.out]; exact this.low⟩
          clear HI
          go_wp2
          go_ret
          exact ⟨as', cs', rfl, HE.out⟩

theorem madeBy_any (seed op place : Int) (vo vs : Value) (read : List Int) (a : Option Addr) (n c : Nat) (r : Int) (w : World) (hn : read.length = n) (h1 : SlOf w 1 RInt (.slice a n c) read) (hfew : (3 + n) * 8 ≤ 140737488355328) (hr : mixL 7 ([seed, op, place] ++ read) = r) :
    Calls Try.prog 11 #[.int .i64 seed, .agg #[.int .i64 op, vo, vs], .int .i64 place, .slice a n c] w fun e w' => e = .returned (.int .i64 r) ∧ Below w.heap.size w w' := by
  obtain ⟨W, hW⟩ : ∃ W, W = w.alloc (.cells #[.int .i64 op, vo, vs] 47) := ⟨_, rfl⟩
  have hbw : Below w.heap.size w W := by rw [hW]; exact (Below.refl _ _).alloc (Nat.le_refl _) _
  have c0 : W.cell? ⟨w.heap.size, 0, none⟩ = some (.int .i64 op) := by rw [hW]; simp
  obtain ⟨W2, hW2⟩ : ∃ W2, W2 = W.alloc (.cells #[.int .i64 seed, .int .i64 op, .int .i64 place] 3) := ⟨_, rfl⟩
  have hb2 : Below W.heap.size W W2 := by rw [hW2]; exact (Below.refl _ _).alloc (Nat.le_refl _) _
  have hb3 : Below w.heap.size w W2 := hbw.trans (hb2.mono hbw.size)
  have s3 : SlOf W2 1 RInt (.slice (some ⟨W.heap.size, 0, none⟩) 3 3) [seed, op, place] := by rw [hW2]; exact three_sl seed op place
  have HC := joined_ints [seed, op, place] read (some ⟨W.heap.size, 0, none⟩) a 3 n 3 c W2 rfl hn s3 (h1.below hb3 fun _ _ h => h) hfew
  have HW : Hid (W = w.alloc (.cells #[.int .i64 op, vo, vs] 47)) := hW
  have HW2 : Hid (W2 = W.alloc (.cells #[.int .i64 seed, .int .i64 op, .int .i64 place] 3)) := hW2
  have HB3 : Hid (Below w.heap.size w W2) := hb3
  have HR : Hid (mixL 7 ([seed, op, place] ++ read) = r ∧ ([seed, op, place] ++ read).length = 3 + n) := ⟨hr, by simp [hn]; omega⟩
  clear hW hW2 hbw hb2 hb3 s3 h1 hr hn
  go_enter Try.func11, Try.ntmps11
  go_upto_region 1 with fail
  rw [← HW.out]
  go_wp2_with fail
  rw [← HW2.out]
  refine HC.mono ?_
  clear HC c0
  rintro e w' ⟨a', c', rfl, s4, hb4⟩
  have HC := mixedR_any _ a' (3 + n) c' r w' HR.out.2 s4 HR.out.1
  have HB4 : Hid (Below w.heap.size w w') := HB3.out.trans (hb4.mono HB3.out.size)
  clear s4 hb4
  go_wp2_with fail
  refine HC.mono ?_
  clear HC
  rintro e w2 ⟨rfl, rfl⟩
  go_wp2
  go_ret
  exact ⟨rfl, HB4.out⟩


set_option maxHeartbeats 4000000 in
theorem edgeTaken_any (seed : Int) (xs : List Ins) (vp : Value) (ai ae : Option Addr) (ni ci ne ce : Nat) (i : Int) (read : List Int) (a : Option Addr) (n c : Nat) (r : Int) (w : World) (hi : SlOf w 3 (RIns w) (.slice ai ni ci) xs) (hni : xs.length = ni) (hne : ne ≤ longest) (hn : read.length = n) (h1 : SlOf w 1 RInt (.slice a n c) read) (hfew : (3 + n) * 8 ≤ 140737488355328) (hr : takesM seed xs ne i read = r) :
    Calls Try.prog 12 #[.int .i64 seed, .agg #[vp, .slice ai ni ci, .slice ae ne ce], .int .i64 i, .slice a n c] w fun e w' => e = .returned (.int .i64 r) ∧ Below w.heap.size w w' := by
  obtain ⟨N, hN⟩ : ∃ N, w.heap.size = N := ⟨_, rfl⟩
  obtain ⟨W, hW⟩ : ∃ W, W = w.alloc (.cells #[vp, .slice ai ni ci, .slice ae ne ce] 43) := ⟨_, rfl⟩
  have hbw : Below w.heap.size w W := by rw [hW]; exact (Below.refl _ _).alloc (Nat.le_refl _) _
  have c1 : W.cell? ⟨N, 1, none⟩ = some (.slice ai ni ci) := by rw [hW, ← hN]; simp
  have c2 : W.cell? ⟨N, 2, none⟩ = some (.slice ae ne ce) := by rw [hW, ← hN]; simp
  have lN : N < W.heap.size := by rw [hW, ← hN]; simp
  have li : ni ≤ longest := by
    obtain ⟨_, _, _, h⟩ := hi.out
    omega
  unfold longest at li hne
  have HS1 : Hid (SlOf W 1 RInt (.slice a n c) read) := h1.below hbw fun _ _ h => h
  have HSI : Hid (SlOf W 3 (RIns W) (.slice ai ni ci) xs) := hi.below hbw (RIns.below hbw)
  have HW : Hid (W = w.alloc (.cells #[vp, .slice ai ni ci, .slice ae ne ce] 43)) := hW
  have HN : Hid (w.heap.size = N) := hN
  have HBW : Hid (Below w.heap.size w W) := hbw
  have HL : Hid (read.length = n ∧ xs.length = ni) := ⟨hn, hni⟩
  have wi : IntKind.i64.wrap ((ni : Int) - 1) = (ni : Int) - 1 := by rw [IntKind.wrap_i64]; omega
  clear h1 hi hW hN hbw hn hni
  by_cases g0 : i < 0
  · have HR : Hid (-1 = r) := by show _ = _; rw [← hr]; unfold takesM; rw [if_pos (Or.inl g0)]
    clear hr
    go_enter Try.func12, Try.ntmps12
    go_upto_region 1 with fail
    rw [← HW.out, HN.out]
    go_wp2
    go_ret
    exact ⟨ret_int HR.out, HBW.out⟩
  · by_cases g1 : i = (ni : Int) - 1
    · by_cases g2 : ne = 0
      · have HR : Hid (-1 = r) := by show _ = _; rw [← hr]; unfold takesM; rw [if_pos (Or.inr (Or.inr g2))]
        have q1 : (i == (ni : Int) - 1) = true := by simp [g1]
        clear hr
        subst g2
        go_enter Try.func12, Try.ntmps12
        go_upto_region 1 with fail
        rw [← HW.out, HN.out]
        go_wp2
        go_ret
        exact ⟨ret_int HR.out, HBW.out⟩
      · by_cases g3 : ne = 1
        · have HR : Hid (0 = r) := by
            show _ = _
            rw [← hr]
            unfold takesM
            rw [if_neg (by rw [HL.out.2]; omega), g3]
            omega
          have q1 : (i == (ni : Int) - 1) = true := by simp [g1]
          clear hr
          subst g3
          go_enter Try.func12, Try.ntmps12
          go_upto_region 1 with fail
          rw [← HW.out, HN.out]
          go_wp2
          go_ret
          exact ⟨ret_int HR.out, HBW.out⟩
        · obtain ⟨k, hk⟩ : ∃ k : Nat, i = (k : Int) := ⟨i.toNat, by omega⟩
          subst hk
          obtain rfl : ni = k + 1 := by omega
          have hkn : k < k + 1 := by omega
          obtain ⟨b5, off5, cs, rfl, hcl5, ⟨vo, vs, rfl, hvo, hvs⟩, hc⟩ := HSI.out.at k (by rw [HL.out.2]; exact hkn)
          have c3 := hc 0 (by simp)
          simp at c3
          have hop : (xs.map (·.op)).getD k 0 = (xs[k]'(by rw [HL.out.2]; exact hkn)).op := by
            rw [List.getD_eq_getElem?_getD, List.getElem?_map, List.getElem?_eq_getElem (by rw [HL.out.2]; exact hkn)]
            rfl
          have l5 : b5 < W.heap.size := block_lt c3
          have hr2 : mixL 7 ([seed, (xs[k]'(by rw [HL.out.2]; exact hkn)).op, -1] ++ read) % (ne : Int) = r := by
            rw [← hr]
            unfold takesM
            rw [if_neg (by rw [HL.out.2]; omega), Int.toNat_natCast, hop]
          clear hc hcl5 hvo hvs hr hop
          generalize (xs[k]'(by rw [HL.out.2]; exact hkn)).op = op at *
          obtain ⟨x, hx⟩ : ∃ x, mixL 7 ([seed, op, -1] ++ read) = x := ⟨_, rfl⟩
          have x0 : 0 ≤ x := by rw [← hx]; exact (mixL_bd _ _ (by decide) (by decide)).1
          have x1 : x < 1000003 := by rw [← hx]; exact (mixL_bd _ _ (by decide) (by decide)).2
          rw [hx] at hr2
          have ne0 : 0 < ne := by omega
          have HX : Hid (mixL 7 ([seed, op, -1] ++ read) = x) := hx
          have HR : Hid (x % (ne : Int) = r) := hr2
          have q2 : ((ne : Int) == 0) = false := by simp [g2]
          have HSF : Hid (∀ w', Below W.heap.size W w' → (fun w' => w'.cell? ⟨N, 1, none⟩ = some (.slice (some ⟨b5, off5, none⟩) (k + 1) ci) ∧ w'.cell? ⟨N, 2, none⟩ = some (.slice ae ne ce) ∧ w'.cell? ⟨b5, off5 + k * 3, none⟩ = some (.int .i64 op) ∧ Below W.heap.size W w') w') := fun w' hh => ⟨(hh.cell lN).trans c1, (hh.cell lN).trans c2, (hh.cell l5).trans c3, hh⟩
          have hkc : k < k + 1 + 1 := by omega
          have hkk : (k : Int) < (k : Int) + 1 := by omega
          have HDA : Hid (∀ ob, Below W.heap.size W (W.drew.alloc ob)) := fun ob => (Below.refl _ _).drew.alloc (Nat.le_refl _) _
          have wk : IntKind.i64.wrap (k : Int) = (k : Int) := by rw [IntKind.wrap_i64]; omega
          have q3 : ((ne : Int) == 1) = false := by simp; omega
          clear hx hr2 g0 g1 g2
          go_enter Try.func12, Try.ntmps12
          go_upto_region 1 with fail
          rw [← HW.out, HN.out]
          go_upto_region 5 with fail
          clear c1 c2 c3
          refine wp_region_X (fun w' => w'.cell? ⟨N, 1, none⟩ = some (.slice (some ⟨b5, off5, none⟩) (k + 1) ci) ∧ w'.cell? ⟨N, 2, none⟩ = some (.slice ae ne ce) ∧ w'.cell? ⟨b5, off5 + k * 3, none⟩ = some (.int .i64 op) ∧ Below W.heap.size W w') 99 (by kernel_rfl) (HSF.out _ (Below.refl _ _).drew) (fun hHeld => ?_)
          refine wpXt (v := ?_) 0 rfl (by kernel_rfl) (fun _ _ _ h => h) (by rfl) ?_ hHeld ?_
          rotate_left
          · intro w' hSw
            go_simp <;> with_reducible rfl
          try simp only [Act.put, List.setIfInBounds_toArray, List.set_cons_zero, List.set_cons_succ]
          refine wpXt (v := ?_) 1 rfl (by kernel_rfl) (fun _ _ _ h => h) (by rfl) ?_ hHeld ?_
          rotate_left
          · intro w' hSw
            go_simp <;> with_reducible rfl
          try simp only [Act.put, List.setIfInBounds_toArray, List.set_cons_zero, List.set_cons_succ]
          refine wpXt (v := ?_) 2 rfl (by kernel_rfl) (fun _ _ _ h => h) (by rfl) ?_ hHeld ?_
          rotate_left
          · intro w' hSw
            go_simp <;> with_reducible rfl
          try simp only [Act.put, List.setIfInBounds_toArray, List.set_cons_zero, List.set_cons_succ]
          refine wpXt (v := ?_) 3 rfl (by kernel_rfl) (fun _ _ _ h => h) (by rfl) ?_ hHeld ?_
          rotate_left
          · intro w' hSw
            go_simp <;> with_reducible rfl
          try simp only [Act.put, List.setIfInBounds_toArray, List.set_cons_zero, List.set_cons_succ]
          refine wpXt (v := ?_) 4 rfl (by kernel_rfl) (fun _ _ _ h => h) (by rfl) ?_ hHeld ?_
          rotate_left
          · intro w' hSw
            go_simp <;> with_reducible rfl
          try simp only [Act.put, List.setIfInBounds_toArray, List.set_cons_zero, List.set_cons_succ]
          refine wpXt (v := ?_) 5 rfl (by kernel_rfl) (fun _ _ _ h => h) (by rfl) ?_ hHeld ?_
          rotate_left
          · intro w' hSw
            go_simp <;> with_reducible rfl
          try simp only [Act.put, List.setIfInBounds_toArray, List.set_cons_zero, List.set_cons_succ]
          refine wpXt (v := ?_) 6 rfl (by kernel_rfl) (fun _ _ _ h => h) (by rfl) ?_ hHeld ?_
          rotate_left
          · intro w' hSw
            go_simp <;> with_reducible rfl
          try simp only [Act.put, List.setIfInBounds_toArray, List.set_cons_zero, List.set_cons_succ]
          refine wpXt (v := ?_) 8 rfl (by kernel_rfl) (fun _ _ _ h => h) (by rfl) ?_ hHeld ?_
          rotate_left
          · intro w' hSw
            go_simp <;> with_reducible rfl
          try simp only [Act.put, List.setIfInBounds_toArray, List.set_cons_zero, List.set_cons_succ]
          refine wpXt (v := ?_) 11 rfl (by kernel_rfl) (fun _ _ _ h => h) (by rfl) ?_ hHeld ?_
          rotate_left
          · intro w' hSw
            go_simp <;> with_reducible rfl
          try simp only [Act.put, List.setIfInBounds_toArray, List.set_cons_zero, List.set_cons_succ]
          refine wpXt (v := ?_) 12 rfl (by kernel_rfl) (fun _ _ _ h => h) (by rfl) ?_ hHeld ?_
          rotate_left
          · intro w' hSw
            go_simp <;> with_reducible rfl
          try simp only [Act.put, List.setIfInBounds_toArray, List.set_cons_zero, List.set_cons_succ]
          refine wpXt (v := ?_) 13 rfl (by kernel_rfl) (fun _ _ _ h => h) (by rfl) ?_ hHeld ?_
          rotate_left
          · intro w' hSw
            go_simp <;> with_reducible rfl
          try simp only [Act.put, List.setIfInBounds_toArray, List.set_cons_zero, List.set_cons_succ]
          refine wpXs 7 rfl (by kernel_rfl) (fun K hK => ?_)
          go_simp
          refine hK.out _ _ (HSF.out _ (HDA.out _)) (fun hHeld => ?_)
          clear hK K
          try simp only [Act.put, List.setIfInBounds_toArray, List.set_cons_zero, List.set_cons_succ]
          have s3 : SlOf (W.drew.alloc (.cells #[.int .i64 seed, .int .i64 op, .int .i64 (-1)] 3)) 1 RInt (.slice (some ⟨W.drew.heap.size, 0, none⟩) 3 3) [seed, op, -1] := three_sl seed op (-1)
          have hb3 : Below W.heap.size W (W.drew.alloc (.cells #[.int .i64 seed, .int .i64 op, .int .i64 (-1)] 3)) := (Below.refl _ _).drew.alloc (Nat.le_refl _) _
          have HC := joined_ints [seed, op, -1] read (some ⟨W.drew.heap.size, 0, none⟩) a 3 n 3 c _ rfl HL.out.1 s3 (HS1.out.below hb3 fun _ _ h => h) hfew
          have HB4 : Hid (Below W.heap.size W (W.drew.alloc (.cells #[.int .i64 seed, .int .i64 op, .int .i64 (-1)] 3))) := hb3
          have HLL : Hid (([seed, op, -1] ++ read).length = 3 + n) := by show _ = _; simp [HL.out.1]; omega
          clear s3 hb3
          refine wpXs 9 rfl (by kernel_rfl) (fun K hK => ?_)
          go_simp
          refine HC.mono ?_
          clear HC
          rintro e w4 ⟨a', c', rfl, s4, hb4⟩
          have HB3 : Hid (Below W.heap.size W w4) := HB4.out.trans (hb4.mono HB4.out.size)
          have HD := mixedR_any _ a' (3 + n) c' x w4 HLL.out s4 HX.out
          clear s4 hb4
          refine hK.out _ _ (HSF.out _ HB3.out) (fun hHeld => ?_)
          clear hK K
          try simp only [Act.put, List.setIfInBounds_toArray, List.set_cons_zero, List.set_cons_succ]
          refine wpXs 10 rfl (by kernel_rfl) (fun K hK => ?_)
          go_simp
          refine HD.mono ?_
          clear HD
          rintro e w' ⟨rfl, rfl⟩
          refine hK.out _ _ (HSF.out _ HB3.out) (fun hHeld => ?_)
          clear hK K
          try simp only [Act.put, List.setIfInBounds_toArray, List.set_cons_zero, List.set_cons_succ]
          refine wpXs 14 rfl (by kernel_rfl) (fun K hK => ?_)
          go_simp
          rw [if_neg (by omega), Int.tmod_eq_emod_of_nonneg x0]
          go_simp
          refine hK.out _ _ (HSF.out _ HB3.out) (fun hHeld => ?_)
          clear hK K
          try simp only [Act.put, List.setIfInBounds_toArray, List.set_cons_zero, List.set_cons_succ]
          refine wpXs 15 rfl (by kernel_rfl) (fun K hK => ?_)
          go_simp
          refine hK.out _ _ (HSF.out _ HB3.out) (fun hHeld => ?_)
          clear hK K
          try simp only [Act.put, List.setIfInBounds_toArray, List.set_cons_zero, List.set_cons_succ]
          refine wpAnyX_done (by kernel_rfl) ?_ _
          have HE : Hid (Below w.heap.size w _) := HBW.out.trans (HB3.out.mono HBW.out.size)
          go_wp2
          go_ret
          exact ⟨ret_int HR.out, HE.out⟩
    · have HR : Hid (-1 = r) := by show _ = _; rw [← hr]; unfold takesM; rw [if_pos (Or.inr (Or.inl (by rw [HL.out.2]; exact g1)))]
      have q1 : (i == (ni : Int) - 1) = false := by simp [g1]
      clear hr
      go_enter Try.func12, Try.ntmps12
      go_upto_region 1 with fail
      rw [← HW.out, HN.out]
      go_wp2
      go_ret
      exact ⟨ret_int HR.out, HBW.out⟩
end Go.Proofs.Ytmkloakahefjiaa
