/-
  The walks of MixStep, MixModulo and MadeMix.
-/
import Derived.Test.YtoalfffecboahaaRuD
import Derived.OpenShut
namespace Go.Proofs.Ytoalfffecboahaa
open Go.RowKit Go.ChangeShapes Go.WideShapes
set_option linter.unusedVariables false

theorem mix_one (l : List Int) (k : Int) : mixL 7 (l ++ [k]) = (31 * mixL 7 l + k) % 1000003 := by rw [mixL_app]; rfl
theorem mix_mod (l : List Int) (a b : Int) (h : a % 1000003 = b % 1000003) : mixL 7 (l ++ [a]) = mixL 7 (l ++ [b]) := by
  rw [mixL_app, mixL_app]
  show mixN _ a = mixN _ b
  unfold mixN
  omega
theorem one_slM {w : World} (x : Int) : SlOf (w.alloc (.cells #[.int .i64 x] 3)) 1 RInt (.slice (some ⟨w.heap.size, 0, none⟩) 1 1) [x] :=
  own_ints [x] (ru_own_new w.heap.size [x] #[.int .i64 x] rfl (Nat.le_refl _) (by simp) (by simp [maxLen])) (by simp [longest])
theorem GrS.start {w wb : World} {a : Option Addr} {n c : Nat} {l : List Int} (hn : l.length = n) (hgrow : w.grownBy wb none) (hown : wb.ownsRow w.heap.size 3 1 (.slice a n c) n (l.flatMap cI)) : GrS w w.heap.size (.slice a n c) l wb :=
  ⟨by rw [hn]; exact hown, ru_below hgrow, hgrow.size⟩

set_option maxHeartbeats 2000000 in
theorem mixStep_walk (l : List Int) (v : Value) (m : Int) (wm : (Lit.int .i64 m).wf = true) (w : World) (h : SlOf w 1 RInt v l) (hf : l.length * 8 ≤ 140737488351232) :
    Calls Try.prog 6 #[v, .int .i64 m] w fun e w' => e = .returned (.bool true) ∧ Below w.heap.size w w' := by
  obtain ⟨i3, hi3, hz3, hz31, hz32⟩ := ru_parts ruInfo
  obtain ⟨m0, m1⟩ := bounds_i64 wm
  obtain ⟨a, c, rfl, _⟩ := h.out
  obtain ⟨n, hn⟩ : ∃ n, l.length = n := ⟨_, rfl⟩
  rw [hn] at h hf ⊢
  obtain ⟨r, hr⟩ : ∃ r, mixL 7 l = r := ⟨_, rfl⟩
  obtain ⟨k, hk⟩ : ∃ k, pickedOf m 1000003 = k := ⟨_, rfl⟩
  have hk0 : 0 ≤ k := by rw [← hk]; exact (pickedOf_bd m 1000003 (by decide)).1
  have hk1 : k < 1000003 := by rw [← hk]; exact (pickedOf_bd m 1000003 (by decide)).2
  have r0 : 0 ≤ r := by rw [← hr]; exact (mixL_bd l 7 (by decide) (by decide)).1
  have r1 : r < 1000003 := by rw [← hr]; exact (mixL_bd l 7 (by decide) (by decide)).2
  have HC := mix_any l a n c r w hn h hr
  have HP := picked_any m 1000003 w m0 m1 (by decide) (by decide)
  rw [hk] at HP
  obtain ⟨hx1, hx2, hx3c⟩ := ru_ints h
  have hx4 := ru_one l
  have HR : Hid (mixL 7 (l ++ [k]) = (31 * r + k) % 1000003) := by show _ = _; rw [mix_one l k, hr]
  have HL : Hid (l.length = n) := hn
  clear h hn hr hk m0 m1 wm hx1
  go_enter Try.func6, Try.ntmps6
  go_wp2_with fail
  refine HC.mono ?_
  clear HC
  rintro e w1 ⟨rfl, rfl⟩
  go_wp2_with fail
  refine HP.mono ?_
  clear HP
  rintro e w1 ⟨rfl, rfl⟩
  go_wp2_with (at_builtin; go_must (refine ru_append _ rfl _ _ 22 rfl w1.heap.size 3 i3 (.int .i64 0) 8 Try.underlying22 hi3 hz3 hz31 hz32 rfl (.slice none 0 0) 0 [] (by rfl) (World.ownsRow_nil _ _ _ _) a n c (l.flatMap cI) (by rfl) hx2 hx3c hx4 ?c1 ?c2 (Nat.le_refl _) ?_))
  rotate_left
  any_goals (first | (unfold maxLen; omega) | omega)
  intro ac capc wb hown hgrow
  have HGc : Hid (GrS w1 w1.heap.size (.slice ac n capc) l wb) := by
    have hg : w1.grownBy wb none := hgrow
    exact GrS.start HL.out hg (by simpa using hown)
  have own := HGc.out.own
  rw [HL.out] at own
  have oA := own.alloc (.cells #[.int .i64 k] 3)
  have hle := HGc.out.le
  clear hown hgrow
  go_wp2_with (at_builtin; go_must (refine wpList_append_lies _ rfl _ _ 22 rfl w1.heap.size 3 i3 (.int .i64 0) 1 8 Try.underlying22 hi3 hz3 hz31 hz32 rfl (by omega) (.slice ac n capc) n _ (by rfl) oA ⟨wb.heap.size, 0, none⟩ 1 1 [.int .i64 k] (by rfl) (by rfl) ?c3 ?c4 (by omega) ?c5 ?c6 ?c7 (wb.heap.size + 1) ?c8 ?_))
  rotate_left
  any_goals (first | (exact ru_news rfl) | rfl | (show Value.oneCell' _ = true; simp [Value.oneCell']) | (intro u hu; simp at hu; subst hu; rfl) | (unfold maxLen; omega) | omega | (simp; omega) | (simp; rfl) | (simp; done))
  intro gc cap2c wc hown hgrow hat hgl
  have HPc : Hid (SlOf wc 1 RInt (.slice (some ⟨gc, 0, none⟩) (n + 1) cap2c) (l ++ [k]) ∧ Below w1.heap.size w1 wc) := by
    have hh : GrS w1 w1.heap.size (.slice (some ⟨gc, 0, none⟩) (n + 1) cap2c) (l ++ [k]) wc := (HGc.out.below ((Below.refl _ _).alloc (Nat.le_refl _) _)).push (by rw [HL.out]; rfl) hgrow hown
    exact ⟨hh.sl (by rw [List.length_append, HL.out]; simp [longest]; omega), hh.low⟩
  clear hown hgrow hat hgl oA own hle HGc
  have HC := mix_any (l ++ [k]) (some ⟨gc, 0, none⟩) (n + 1) cap2c ((31 * r + k) % 1000003) wc (by rw [List.length_append, HL.out]; rfl) HPc.out.1 HR.out
  go_wp2_with fail
  refine HC.mono ?_
  clear HC
  rintro e wz ⟨rfl, rfl⟩
  have HC := mix_any [] none 0 0 7 wz rfl ⟨none, 0, rfl, by simp [longest], Or.inl rfl⟩ rfl
  have q0 : decide (0 ≤ r) = true := by simp [r0]
  have q1 : decide (r < 1000003) = true := by simp [r1]
  have q2 : ((31 * r + k) % 1000003 == (31 * r + k) % 1000003) = true := by simp
  go_wp2_with fail
  refine HC.mono ?_
  clear HC
  rintro e wy ⟨rfl, rfl⟩
  go_wp2
  go_ret
  exact ⟨rfl, HPc.out.2⟩

set_option maxHeartbeats 4000000 in
theorem mixModulo_walk (l : List Int) (v : Value) (m : Int) (wm : (Lit.int .i64 m).wf = true) (t : Int) (wt : (Lit.int .i64 t).wf = true) (w : World) (h : SlOf w 1 RInt v l) (hf : l.length * 8 ≤ 140737488351232) :
    Calls Try.prog 8 #[v, .int .i64 m, .int .i64 t] w fun e w' => e = .returned (.bool true) ∧ Below w.heap.size w w' := by
  obtain ⟨i3, hi3, hz3, hz31, hz32⟩ := ru_parts ruInfo
  obtain ⟨m0, m1⟩ := bounds_i64 wm
  obtain ⟨t0, t1⟩ := bounds_i64 wt
  obtain ⟨a, c, rfl, _⟩ := h.out
  obtain ⟨n, hn⟩ : ∃ n, l.length = n := ⟨_, rfl⟩
  rw [hn] at h hf ⊢
  obtain ⟨k, hk⟩ : ∃ k, pickedOf m 1000003 = k := ⟨_, rfl⟩
  have hk0 : 0 ≤ k := by rw [← hk]; exact (pickedOf_bd m 1000003 (by decide)).1
  have hk1 : k < 1000003 := by rw [← hk]; exact (pickedOf_bd m 1000003 (by decide)).2
  obtain ⟨p, hp⟩ : ∃ p, pickedOf t 2000 = p := ⟨_, rfl⟩
  have hp0 : 0 ≤ p := by rw [← hp]; exact (pickedOf_bd t 2000 (by decide)).1
  have hp1 : p < 2000 := by rw [← hp]; exact (pickedOf_bd t 2000 (by decide)).2
  obtain ⟨b, hb⟩ : ∃ b, k + 1000003 * (p - 1000) = b := ⟨_, rfl⟩
  obtain ⟨r, hr⟩ : ∃ r, mixL 7 (l ++ [k]) = r := ⟨_, rfl⟩
  have hr' : mixL 7 (l ++ [b]) = r := by rw [← hr]; exact (mix_mod l k b (by omega)).symm
  have HC := picked_any m 1000003 w m0 m1 (by decide) (by decide)
  have HP := picked_any t 2000 w t0 t1 (by decide) (by decide)
  rw [hk] at HC
  rw [hp] at HP
  have HS : Hid (SlOf w 1 RInt (.slice a n c) l) := h
  obtain ⟨hx1, hx2, hx3c⟩ := ru_ints h
  have hx4 := ru_one l
  have HR : Hid (mixL 7 (l ++ [k]) = r) := hr
  have HR' : Hid (mixL 7 (l ++ [b]) = r) := hr'
  have HB : Hid (k + 1000003 * (p - 1000) = b) := hb
  have HL : Hid (l.length = n) := hn
  clear h hn hr hr' hk hp hb m0 m1 t0 t1 wm wt hx1
  go_enter Try.func8, Try.ntmps8
  go_wp2_with fail
  refine HC.mono ?_
  clear HC
  rintro e w1 ⟨rfl, rfl⟩
  go_wp2_with fail
  refine HP.mono ?_
  clear HP
  rintro e w1 ⟨rfl, rfl⟩
  go_upto_region 3 with fail
  rw [HB.out]
  go_wp2_with (at_builtin; go_must (refine ru_append _ rfl _ _ 22 rfl w1.heap.size 3 i3 (.int .i64 0) 8 Try.underlying22 hi3 hz3 hz31 hz32 rfl (.slice none 0 0) 0 [] (by rfl) (World.ownsRow_nil _ _ _ _) a n c (l.flatMap cI) (by rfl) hx2 hx3c hx4 ?c1 ?c2 (Nat.le_refl _) ?_))
  rotate_left
  any_goals (first | (unfold maxLen; omega) | omega)
  intro ac capc wb hown hgrow
  have HGc : Hid (GrS w1 w1.heap.size (.slice ac n capc) l wb) := by
    have hg : w1.grownBy wb none := hgrow
    exact GrS.start HL.out hg (by simpa using hown)
  have own := HGc.out.own
  rw [HL.out] at own
  have oA := own.alloc (.cells #[.int .i64 k] 3)
  have hle := HGc.out.le
  clear hown hgrow
  go_wp2_with (at_builtin; go_must (refine wpList_append_lies _ rfl _ _ 22 rfl w1.heap.size 3 i3 (.int .i64 0) 1 8 Try.underlying22 hi3 hz3 hz31 hz32 rfl (by omega) (.slice ac n capc) n _ (by rfl) oA ⟨wb.heap.size, 0, none⟩ 1 1 [.int .i64 k] (by rfl) (by rfl) ?c3 ?c4 (by omega) ?c5 ?c6 ?c7 (wb.heap.size + 1) ?c8 ?_))
  rotate_left
  any_goals (first | (exact ru_news rfl) | rfl | (show Value.oneCell' _ = true; simp [Value.oneCell']) | (intro u hu; simp at hu; subst hu; rfl) | (unfold maxLen; omega) | omega | (simp; omega) | (simp; rfl) | (simp; done))
  intro gc cap2c wc hown hgrow hat hgl
  have HPc : Hid (SlOf wc 1 RInt (.slice (some ⟨gc, 0, none⟩) (n + 1) cap2c) (l ++ [k]) ∧ Below w1.heap.size w1 wc) := by
    have hh : GrS w1 w1.heap.size (.slice (some ⟨gc, 0, none⟩) (n + 1) cap2c) (l ++ [k]) wc := (HGc.out.below ((Below.refl _ _).alloc (Nat.le_refl _) _)).push (by rw [HL.out]; rfl) hgrow hown
    exact ⟨hh.sl (by rw [List.length_append, HL.out]; simp [longest]; omega), hh.low⟩
  clear hown hgrow hat hgl oA own hle HGc
  have HC := mix_any (l ++ [k]) (some ⟨gc, 0, none⟩) (n + 1) cap2c r wc (by rw [List.length_append, HL.out]; rfl) HPc.out.1 HR.out
  go_wp2_with fail
  refine HC.mono ?_
  clear HC
  rintro e wz ⟨rfl, rfl⟩
  have hx3d := (ru_ints (HS.out.below HPc.out.2 fun _ _ h => h)).2.2
  go_wp2_with (at_builtin; go_must (refine ru_append _ rfl _ _ 22 rfl wz.heap.size 3 i3 (.int .i64 0) 8 Try.underlying22 hi3 hz3 hz31 hz32 rfl (.slice none 0 0) 0 [] (by rfl) (World.ownsRow_nil _ _ _ _) a n c (l.flatMap cI) (by rfl) hx2 hx3d hx4 ?d1 ?d2 (Nat.le_refl _) ?_))
  rotate_left
  any_goals (first | (unfold maxLen; omega) | omega)
  intro ad capd wd hown hgrow
  have HGd : Hid (GrS wz wz.heap.size (.slice ad n capd) l wd) := by
    have hg : wz.grownBy wd none := hgrow
    exact GrS.start HL.out hg (by simpa using hown)
  have own := HGd.out.own
  rw [HL.out] at own
  have oA := own.alloc (.cells #[.int .i64 b] 3)
  have hle := HGd.out.le
  clear hown hgrow
  go_wp2_with (at_builtin; go_must (refine wpList_append_lies _ rfl _ _ 22 rfl wz.heap.size 3 i3 (.int .i64 0) 1 8 Try.underlying22 hi3 hz3 hz31 hz32 rfl (by omega) (.slice ad n capd) n _ (by rfl) oA ⟨wd.heap.size, 0, none⟩ 1 1 [.int .i64 b] (by rfl) (by rfl) ?d3 ?d4 (by omega) ?d5 ?d6 ?d7 (wd.heap.size + 1) ?d8 ?_))
  rotate_left
  any_goals (first | (exact ru_news rfl) | rfl | (show Value.oneCell' _ = true; simp [Value.oneCell']) | (intro u hu; simp at hu; subst hu; rfl) | (unfold maxLen; omega) | omega | (simp; omega) | (simp; rfl) | (simp; done))
  intro gd cap2d we hown hgrow hat hgl
  have HPd : Hid (SlOf we 1 RInt (.slice (some ⟨gd, 0, none⟩) (n + 1) cap2d) (l ++ [b]) ∧ Below wz.heap.size wz we) := by
    have hh : GrS wz wz.heap.size (.slice (some ⟨gd, 0, none⟩) (n + 1) cap2d) (l ++ [b]) we := (HGd.out.below ((Below.refl _ _).alloc (Nat.le_refl _) _)).push (by rw [HL.out]; rfl) hgrow hown
    exact ⟨hh.sl (by rw [List.length_append, HL.out]; simp [longest]; omega), hh.low⟩
  clear hown hgrow hat hgl oA own hle HGd
  have HC := mix_any (l ++ [b]) (some ⟨gd, 0, none⟩) (n + 1) cap2d r we (by rw [List.length_append, HL.out]; rfl) HPd.out.1 HR'.out
  go_wp2_with fail
  refine HC.mono ?_
  clear HC
  rintro e wy ⟨rfl, rfl⟩
  have HE : Hid (Below w1.heap.size w1 wy) := HPc.out.2.trans (HPd.out.2.mono HPc.out.2.size)
  have HC := mix_any [1] (some ⟨wy.heap.size, 0, none⟩) 1 1 218 _ rfl (one_slM (w := wy) 1) (by decide)
  have HE2 : Hid (Below w1.heap.size w1 (wy.alloc (.cells #[.int .i64 1] 3))) := HE.out.alloc HE.out.size _
  have q : (r == r) = true := by simp
  go_wp2_with fail
  refine HC.mono ?_
  clear HC
  rintro e wv ⟨rfl, rfl⟩
  go_wp2
  go_ret
  exact ⟨rfl, HE2.out⟩
end Go.Proofs.Ytoalfffecboahaa
