/-
  Numbers that are mixed into one (plain), and the contracts of 'mixed', 'Mix' and of the reference's 'Mixed'.
  Numbers that are joined by append; a row of one's own that grows.
  The contracts of 'Made' and 'Takes'.
-/
import Derived.Test.YtjbjnndmpheedaaA4
import Derived.Test.YtjbjnndmpheedaaA1
import Derived.Deep.Upon
import Derived.Deep.QuietTactic
import Derived.BigQuiet
import Derived.Test.YtjbjnndmpheedaaA5
import Derived.Deep.DeepCutAuto
import Derived.Deep.CutBlock
namespace Go.Proofs.Ytjbjnndmpheedaa
open Go.RowKit
set_option linter.unusedVariables false

def mixN (m n : Int) : Int := (31 * m + n) % 1000003
def mixL (m : Int) (l : List Int) : Int := l.foldl mixN m
theorem mixN_bd (m n : Int) : 0 ≤ mixN m n ∧ mixN m n < 1000003 := by unfold mixN; omega
theorem mixL_bd : ∀ (l : List Int) (m : Int), 0 ≤ m → m < 1000003 → 0 ≤ mixL m l ∧ mixL m l < 1000003
  | [], m, h0, h1 => ⟨h0, h1⟩
  | n :: l, m, _, _ => mixL_bd l (mixN m n) (mixN_bd m n).1 (mixN_bd m n).2
theorem mixL_app (m : Int) (a b : List Int) : mixL m (a ++ b) = mixL (mixL m a) b := List.foldl_append
theorem mixL_drop (m : Int) (l : List Int) (k : Nat) (h : k < l.length) : mixL m (l.drop k) = mixL (mixN m (l.getD k 0)) (l.drop (k + 1)) := by
  have hd : l.drop k = l.getD k 0 :: l.drop (k + 1) := by
    rw [List.drop_eq_getElem_cons h, List.getD_eq_getElem?_getD, List.getElem?_eq_getElem h]
    rfl
  rw [hd]
  rfl
theorem mixL_end (m : Int) (l : List Int) (k : Nat) (h : l.length ≤ k) : mixL m (l.drop k) = m := by rw [List.drop_eq_nil_of_le h]; rfl
theorem tmod_neg (n : Int) (h : n < 0) : n.tmod 1000003 = -((-n) % 1000003) := by
  have := Int.neg_tmod (-n) 1000003
  rw [Int.neg_neg] at this
  rw [this, Int.tmod_eq_emod_of_nonneg (by omega)]
theorem tmod_cases (n : Int) : ∃ r, n.tmod 1000003 = r ∧ -1000003 < r ∧ r < 1000003 ∧ (∀ x : Int, (x + r) % 1000003 = (x + n) % 1000003) := by
  by_cases h : n < 0
  · refine ⟨_, tmod_neg n h, by omega, by omega, fun x => by omega⟩
  · exact ⟨_, Int.tmod_eq_emod_of_nonneg (by omega), by omega, by omega, fun x => by omega⟩

theorem ru_at {w : World} {a : Option Addr} {n cap : Nat} {l : List Int} (h : SlOf w 1 RInt (.slice a n cap) l) (k : Nat) (h1 : k < l.length) : ∃ b off, a = some ⟨b, off, none⟩ ∧ b < w.heap.size ∧ w.cell? ⟨b, off + k, none⟩ = some (.int .i64 (l.getD k 0)) := by
  obtain ⟨b, off, cs, rfl, hl, hR, hc⟩ := h.at k h1
  unfold RInt at hR
  subst hR
  have hc0 := hc 0 (by simp)
  simp only [Nat.mul_one, Nat.add_zero, List.getElem_cons_zero] at hc0
  refine ⟨b, off, rfl, block_lt hc0, ?_⟩
  rw [hc0, List.getD_eq_getElem?_getD, List.getElem?_eq_getElem (by omega)]
  rfl

set_option maxHeartbeats 2000000 in
theorem mixed_any (l : List Int) (a : Option Addr) (n c : Nat) (m r : Int) (w : World) (hn : l.length = n) (h1 : SlOf w 1 RInt (.slice a n c) l) (hm : 0 ≤ m) (hm' : m < 1000003) (hr : mixL m l = r) :
    Calls Try.prog 30 #[.int .i64 m, .slice a n c] w fun e w' => e = .returned (.int .i64 r) ∧ w' = w := by
  subst hn
  have lb : l.length ≤ longest := by
    obtain ⟨_, _, _, h⟩ := h1.out
    exact h
  unfold longest at lb
  have HA : Hid (SlOf w 1 RInt (.slice a l.length c) l) := h1
  have HR : Hid (mixL m l = r) := hr
  clear h1 hr
  go_enter Try.func30, Try.ntmps30
  go_wp2_with fail
  go_loopw [9, 0] (fun i x wr => ∃ (k : Nat) (y : Int), k ≤ l.length ∧ i = .int .i64 k ∧ x = .int .i64 y ∧ 0 ≤ y ∧ y < 1000003 ∧ wr = w ∧ Hid (mixL y (l.drop k) = r)) (fun i _ _ => l.length - (intOf i).toNat)
  case atStart => exact ⟨0, m, Nat.zero_le _, rfl, rfl, hm, hm', rfl, HR.out⟩
  case round =>
    obtain ⟨k, y, hk, rfl, rfl, hy, hy', rfl, HI⟩ := hrel
    by_cases hlt : k < l.length
    · obtain ⟨b1, o1, rfl, hb1, e1⟩ := ru_at HA.out k hlt
      have hI := HI.out
      rw [mixL_drop _ _ _ hlt] at hI
      have HN : Hid (mixL (mixN y (l.getD k 0)) (l.drop (k + 1)) = r) := hI
      clear hI HI
      generalize l.getD k 0 = x at *
      obtain ⟨q, hq, hq0, hq1, hq2⟩ := tmod_cases x
      have HQ : Hid ((31 * y + q + 1000003) % 1000003 = mixN y x) := by
        show _ = _
        have := hq2 (31 * y)
        unfold mixN
        omega
      clear hq2
      go_wp2
      go_roundw
      case rel => exact ⟨k + 1, mixN y x, by omega, by go_num, by rw [HQ.out], (mixN_bd _ _).1, (mixN_bd _ _).2, trivial, HN.out⟩
      case measure => simp [intOf]; omega
    · have H : Hid (y = r) := by
        show _ = _
        rw [← HI.out, mixL_end _ _ _ (by omega)]
      clear HI
      go_wp2
      go_ret
      exact ⟨ret_int H.out, rfl⟩

theorem mix_any (l : List Int) (a : Option Addr) (n c : Nat) (r : Int) (w : World) (hn : l.length = n) (h1 : SlOf w 1 RInt (.slice a n c) l) (hr : mixL 7 l = r) :
    Calls Try.prog 31 #[.slice a n c] w fun e w' => e = .returned (.int .i64 r) ∧ w' = w := by
  have HC := mixed_any l a n c 7 r w hn h1 (by decide) (by decide) hr
  clear hn h1 hr
  go_enter Try.func31, Try.ntmps31
  go_wp2_with fail
  refine HC.mono ?_
  clear HC
  rintro e w' ⟨rfl, rfl⟩
  go_wp2
  go_ret
  exact ⟨rfl, rfl⟩
end Go.Proofs.Ytjbjnndmpheedaa
namespace Go.Proofs.Ytjbjnndmpheedaa
open Go.RowKit
set_option linter.unusedVariables false

theorem ruInfo : (Try.prog.info? 3).map (fun i => (i.zero, i.size, i.bytes)) = some (some (.int .i64 0), 1, 8) := by kernel_rfl
theorem ru_parts {o : Option TypeInfo} {z : Value} {k m : Nat} (h : o.map (fun i => (i.zero, i.size, i.bytes)) = some (some z, k, m)) : ∃ i, o = some i ∧ i.zero = some z ∧ i.size = k ∧ i.bytes = m := by
  obtain ⟨i, hi, hz⟩ := Option.map_eq_some_iff.1 h
  simp only [Prod.mk.injEq] at hz
  exact ⟨i, hi, hz.1, hz.2.1, hz.2.2⟩
theorem ru_news {w : World} {ob : Obj} {cs : Array Value} {t : Nat} (h : ob = .cells cs t) : ∀ j u, cs.toList[j]? = some u → (w.alloc ob).cell? ((⟨w.heap.size, 0, none⟩ : Addr).add j) = some u := by
  subst h
  exact World.news_of_block (cs := cs) (t := t) (fr := (0, 0)) (heap_alloc_new w _)
theorem ru_below {w w' : World} (h : w.grownBy w' none) : Below w.heap.size w w' := ⟨h.os, h.tape, h.output, h.size, fun b hb => h.block b hb (by simp)⟩
/-- What is grown is as it was below. -/
theorem ru_grown {w w' : World} {B : Nat} {v : Value} {e n : Nat} {xs : List Value} (h : w.grownBy w' v.ownBlock) (hown : w.ownsRow B e 1 v n xs) (hB : B ≤ w.heap.size) : Below B w w' :=
  (Below.refl _ _).grown h hB fun q hq => (own_base hown hq).1
section
variable {P : Program} (w : World)
/-- An append to what is owned, of what lies somewhere, or of nothing. -/
theorem ru_run_append (t ty : TypeId) (base : Nat) (e : TypeId) (i : TypeInfo) (z : Value) (bytes : Nat) (ht : P.underlying t = some (.slice e)) (hi : P.info? e = some i) (hz : i.zero = some z)
    (hsize : i.size = 1) (hby : i.bytes = bytes) (hzs : z.cells.size = 1)
    (v : Value) (n : Nat) (xs : List Value) (hown : w.ownsRow base e 1 v n xs)
    (ax : Option Addr) (m c : Nat) (news : List Value) (hl : news.length = m * 1) (hnews : m = 0 ∨ ∃ ad, ax = some ad ∧ ∀ j u, news[j]? = some u → w.cell? (ad.add j) = some u) (h1 : ∀ u ∈ news, u.oneCell' = true)
    (h63 : n + m ≤ maxLen) (hbytes : (n + m) * bytes ≤ 140737488355328) (hbase : base ≤ w.heap.size) :
    ∃ a' cap w', (Builtin.append_ #[t, t] ty #[v, .slice ax m c]).run P w = .ok (.slice a' (n + m) cap) w' ∧ w'.ownsRow base e 1 (.slice a' (n + m) cap) (n + m) (xs ++ news) ∧ w.grownBy w' v.ownBlock := by
  by_cases hm : m = 0
  · subst hm
    have hn : news = [] := List.length_eq_zero_iff.1 (by rw [hl])
    subst hn
    have hv : ∃ a' cap, v = .slice a' n cap ∧ n ≤ cap := by
      rcases hown.2 with ⟨rfl, rfl⟩ | ⟨g, cap, cur, rfl, _, _, hnc, _⟩
      · exact ⟨none, 0, rfl, Nat.le_refl _⟩
      · exact ⟨_, cap, rfl, hnc⟩
    obtain ⟨a', cap, rfl, hnc⟩ := hv
    refine ⟨a', cap, w, ?_, by simpa using hown, ⟨rfl, rfl, rfl, Nat.le_refl _, fun _ _ _ => rfl⟩⟩
    rw [Nat.add_zero]
    cases ax with
    | none => exact run_append_nothing w t t ty e i ht hi a' n cap hnc _ (Src.ofNil w ht c)
    | some ad => exact run_append_nothing w t t ty e i ht hi a' n cap hnc _ (Src.ofSlice w ht ad 0 c [] (by simp) (by simp) (by simp))
  · obtain ⟨ad, rfl, hc⟩ := hnews.resolve_left hm
    obtain ⟨g, cap, w', hr, h2, h3, h4, _⟩ := run_append_lies (P := P) w t ty base e i z 1 bytes ht hi hz hsize hby hzs (by decide) v n xs hown ad m c news hl hc h1 (by omega) (by omega) (by simpa using hbytes) hbase w.heap.size rfl
    exact ⟨_, _, _, hr, h2, h3⟩
theorem ru_append {ops : Array Oper} {rest : List Oper} {o : Oper} {a : Act} {Q : Exit → Act → World → Prop} (hgd : o.guard = none) (s x : Operand) (t : TypeId)
    (ho : o.op = .call { callee := .builtin .append, args := #[s, x], argTypes := #[t, t] })
    (base : Nat) (e : TypeId) (i : TypeInfo) (z : Value) (bytes : Nat) (ht : P.underlying t = some (.slice e)) (hi : P.info? e = some i) (hz : i.zero = some z)
    (hsize : i.size = 1) (hby : i.bytes = bytes) (hzs : z.cells.size = 1)
    (v : Value) (n : Nat) (xs : List Value) (hs : a.eval s = v) (hown : w.ownsRow base e 1 v n xs)
    (ax : Option Addr) (m c : Nat) (news : List Value) (hx : a.eval x = .slice ax m c) (hl : news.length = m * 1) (hnews : m = 0 ∨ ∃ ad, ax = some ad ∧ ∀ j u, news[j]? = some u → w.cell? (ad.add j) = some u) (h1 : ∀ u ∈ news, u.oneCell' = true)
    (h63 : n + m ≤ maxLen) (hbytes : (n + m) * bytes ≤ 140737488355328) (hbase : base ≤ w.heap.size)
    (h : ∀ a' cap w', w'.ownsRow base e 1 (.slice a' (n + m) cap) (n + m) (xs ++ news) → w.grownBy w' v.ownBlock → wpList P ops Q rest (a.put o.dst (.slice a' (n + m) cap)) w') : wpList P ops Q (o :: rest) a w :=
  wpList_plain hgd fun _ hK => by
    obtain ⟨a', cap, w', hr, h2, h3⟩ := ru_run_append (P := P) w t o.type base e i z bytes ht hi hz hsize hby hzs v n xs hown ax m c news hl hnews h1 h63 hbytes hbase
    unfold Oper.wp execOp
    simp only [ho, resolve, invoke, builtin, Sem.run_bind, Sem.run_pure, Result.andThen_ok, List.map_toArray, List.map_cons, List.map_nil, hs, hx, hr]
    exact hK _ _ (h a' cap w' h2 h3)
end
theorem ru_off (b off j : Nat) : (⟨b, off, none⟩ : Addr).add j = ⟨b, off + j, none⟩ := by unfold Addr.add; split <;> simp_all
/-- Numbers lie there in cells. -/
theorem ru_ints {w : World} {a : Option Addr} {n c : Nat} {l : List Int} (h : SlOf w 1 RInt (.slice a n c) l) : n = l.length ∧ (l.flatMap cI).length = n * 1 ∧ (n = 0 ∨ ∃ ad, a = some ad ∧ ∀ j u, (l.flatMap cI)[j]? = some u → w.cell? (ad.add j) = some u) := by
  obtain ⟨a', c', hv, _, h⟩ := h
  simp only [Value.slice.injEq] at hv
  obtain ⟨rfl, rfl, _⟩ := hv
  refine ⟨rfl, flat_length cI 1 (fun _ => rfl) l, ?_⟩
  rcases h with rfl | ⟨b, off, rfl, h⟩
  · exact Or.inl rfl
  · refine Or.inr ⟨_, rfl, fun j u hu => ?_⟩
    have hj : j < l.length := by
      have := (List.getElem?_eq_some_iff.1 hu).1
      rw [flat_length cI 1 (fun _ => rfl) l] at this
      omega
    obtain ⟨cs, h1, h2, h3⟩ := h j hj
    unfold RInt at h2
    subst h2
    have h4 := flat_at cI 1 (fun _ => rfl) l j 0 hj (by decide)
    rw [Nat.mul_one, Nat.add_zero, hu] at h4
    have h5 := h3 0 (by simp)
    rw [Nat.mul_one, Nat.add_zero] at h5
    rw [ru_off, h5, h4]
    rfl
theorem ru_one (l : List Int) : ∀ u ∈ l.flatMap cI, u.oneCell' = true := fun u hu => by
  obtain ⟨x, _, hx⟩ := List.mem_flatMap.1 hu
  simp [cI] at hx
  rw [hx]
  rfl
/-- A new row of numbers is owned. -/
theorem ru_own_new {w : World} (base : Nat) (l : List Int) (cs : Array Value) (hcs : cs.toList = l.flatMap cI) (hb : base ≤ w.heap.size) (hl : 0 < l.length) (hn : l.length ≤ maxLen) : (w.alloc (.cells cs 3)).ownsRow base 3 1 (.slice (some ⟨w.heap.size, 0, none⟩) l.length l.length) l.length (l.flatMap cI) := by
  refine ⟨flat_length cI 1 (fun _ => rfl) l, Or.inr ⟨w.heap.size, l.length, cs, rfl, hb, heap_alloc_new w _, Nat.le_refl _, hn, ?_, ?_⟩⟩
  · rw [← Array.length_toList, hcs, flat_length cI 1 (fun _ => rfl)]
  · rw [hcs]
    have : (l.flatMap cI).length = l.length * 1 := flat_length cI 1 (fun _ => rfl) l
    rw [← this, List.take_length]
/-- A row of one's own that grows: the numbers so far. -/
structure GrS (w0 : World) (N : Nat) (v : Value) (l : List Int) (w : World) : Prop where
  own : w.ownsRow N 3 1 v l.length (l.flatMap cI)
  low : Below N w0 w
  le : N ≤ w.heap.size
theorem GrS.below {w0 : World} {N : Nat} {v : Value} {l : List Int} {w w' : World} (h : GrS w0 N v l w) (hb : Below w.heap.size w w') : GrS w0 N v l w' :=
  ⟨own_keep h.own fun g _ _ hg => hb.block g hg, h.low.trans (hb.mono h.le), Nat.le_trans h.le hb.size⟩
theorem GrS.push {w0 : World} {N : Nat} {v v' : Value} {l l2 : List Int} {w w1 : World} {m : Nat} (h : GrS w0 N v l w) (hm : m = l.length + l2.length) (hgrow : w.grownBy w1 v.ownBlock) (hown : w1.ownsRow N 3 1 v' m (l.flatMap cI ++ l2.flatMap cI)) : GrS w0 N v' (l ++ l2) w1 := by
  refine ⟨?_, h.low.trans (ru_grown hgrow h.own h.le), Nat.le_trans h.le hgrow.size⟩
  rw [List.length_append, ← hm, List.flatMap_append]
  exact hown
theorem GrS.nil (w : World) : GrS w w.heap.size (.slice none 0 0) [] w := ⟨⟨rfl, Or.inl ⟨rfl, rfl⟩⟩, Below.refl _ _, Nat.le_refl _⟩
theorem GrS.sl {w0 : World} {N : Nat} {v : Value} {l : List Int} {w : World} (h : GrS w0 N v l w) (hn : l.length ≤ longest) : SlOf w 1 RInt v l := own_ints _ h.own hn

end Go.Proofs.Ytjbjnndmpheedaa
namespace Go.Proofs.Ytjbjnndmpheedaa
open Go.RowKit
set_option linter.unusedVariables false

/-- Three numbers that were just laid. -/
theorem three_sl {w : World} (x y z : Int) : SlOf (w.alloc (.cells #[.int .i64 x, .int .i64 y, .int .i64 z] 3)) 1 RInt (.slice (some ⟨w.heap.size, 0, none⟩) 3 3) [x, y, z] :=
  own_ints [x, y, z] (ru_own_new w.heap.size [x, y, z] #[.int .i64 x, .int .i64 y, .int .i64 z] rfl (Nat.le_refl _) (by simp) (by simp [maxLen])) (by simp [longest])
theorem mix3_bd (x y z : Int) : 0 ≤ mixL 7 [x, y, z] ∧ mixL 7 [x, y, z] < 1000003 := mixL_bd _ _ (by decide) (by decide)

theorem made_any (seed op place : Int) (vo vs : Value) (read : List Int) (a : Option Addr) (n c : Nat) (r : Int) (w : World) (hn : read.length = n) (h1 : SlOf w 1 RInt (.slice a n c) read) (hr : mixL 7 ([seed, op, place] ++ read) = r) :
    Calls Try.prog 17 #[.int .i64 seed, .agg #[.int .i64 op, vo, vs], .int .i64 place, .slice a n c] w fun e w' => e = .returned (.int .i64 r) ∧ Below w.heap.size w w' := by
  obtain ⟨W, hW⟩ : ∃ W, W = w.alloc (.cells #[.int .i64 op, vo, vs] 45) := ⟨_, rfl⟩
  have hbw : Below w.heap.size w W := by rw [hW]; exact (Below.refl _ _).alloc (Nat.le_refl _) _
  have c0 : W.cell? ⟨w.heap.size, 0, none⟩ = some (.int .i64 op) := by rw [hW]; simp
  obtain ⟨W2, hW2⟩ : ∃ W2, W2 = W.alloc (.cells #[.int .i64 seed, .int .i64 op, .int .i64 place] 3) := ⟨_, rfl⟩
  have hb2 : Below W.heap.size W W2 := by rw [hW2]; exact (Below.refl _ _).alloc (Nat.le_refl _) _
  have hb3 : Below w.heap.size w W2 := hbw.trans (hb2.mono hbw.size)
  have s3 : SlOf W2 1 RInt (.slice (some ⟨W.heap.size, 0, none⟩) 3 3) [seed, op, place] := by rw [hW2]; exact three_sl seed op place
  have HC := mix_any [seed, op, place] (some ⟨W.heap.size, 0, none⟩) 3 3 _ W2 rfl s3 rfl
  rw [mixL_app] at hr
  have HD := mixed_any read a n c (mixL 7 [seed, op, place]) r W2 hn (h1.below hb3 fun _ _ h => h) (mix3_bd _ _ _).1 (mix3_bd _ _ _).2 hr
  generalize mixL 7 [seed, op, place] = q at *
  have HW : Hid (W = w.alloc (.cells #[.int .i64 op, vo, vs] 45)) := hW
  have HW2 : Hid (W2 = W.alloc (.cells #[.int .i64 seed, .int .i64 op, .int .i64 place] 3)) := hW2
  have HB3 : Hid (Below w.heap.size w W2) := hb3
  clear hW hW2 hbw hb2 hb3 s3 h1 hr hn
  go_enter Try.func17, Try.ntmps17
  go_upto_region 1 with fail
  rw [← HW.out]
  go_wp2_with fail
  rw [← HW2.out]
  refine HC.mono ?_
  clear HC
  rintro e w' ⟨rfl, rfl⟩
  go_wp2_with fail
  refine HD.mono ?_
  clear HD
  rintro e w' ⟨rfl, rfl⟩
  go_wp2
  go_ret
  exact ⟨rfl, HB3.out⟩

/-- Which edge is taken. -/
def takesM (seed : Int) (xs : List Ins) (ne : Nat) (i : Int) (read : List Int) : Int := if i < 0 ∨ i ≠ (xs.length : Int) - 1 ∨ ne = 0 then -1 else mixL 7 ([seed, (xs.map (·.op)).getD i.toNat 0, -1] ++ read) % (ne : Int)

set_option maxHeartbeats 4000000 in
theorem takes_any (seed : Int) (xs : List Ins) (vp : Value) (ai ae : Option Addr) (ni ci ne ce : Nat) (i : Int) (read : List Int) (a : Option Addr) (n c : Nat) (r : Int) (w : World) (hi : SlOf w 3 (RIns w) (.slice ai ni ci) xs) (hni : xs.length = ni) (hne : ne ≤ longest) (hn : read.length = n) (h1 : SlOf w 1 RInt (.slice a n c) read) (hr : takesM seed xs ne i read = r) :
    Calls Try.prog 45 #[.int .i64 seed, .agg #[vp, .slice ai ni ci, .slice ae ne ce], .int .i64 i, .slice a n c] w fun e w' => e = .returned (.int .i64 r) ∧ Below w.heap.size w w' := by
  obtain ⟨N, hN⟩ : ∃ N, w.heap.size = N := ⟨_, rfl⟩
  obtain ⟨W, hW⟩ : ∃ W, W = w.alloc (.cells #[vp, .slice ai ni ci, .slice ae ne ce] 75) := ⟨_, rfl⟩
  have hbw : Below w.heap.size w W := by rw [hW]; exact (Below.refl _ _).alloc (Nat.le_refl _) _
  have c1 : W.cell? ⟨N, 1, none⟩ = some (.slice ai ni ci) := by rw [hW, ← hN]; simp
  have c2 : W.cell? ⟨N, 2, none⟩ = some (.slice ae ne ce) := by rw [hW, ← hN]; simp
  have lN : N < W.heap.size := by rw [hW, ← hN]; simp
  have li : ni ≤ longest := by
    obtain ⟨_, _, _, h⟩ := hi.out
    omega
  unfold longest at li hne
  have HS1 : Hid (SlOf W 1 RInt (.slice a n c) read) := h1.below hbw fun _ _ h => h
  have HSI : Hid (SlOf W 3 (RIns W) (.slice ai ni ci) xs) := hi.below hbw (RIns.below hbw)
  have HW : Hid (W = w.alloc (.cells #[vp, .slice ai ni ci, .slice ae ne ce] 75)) := hW
  have HN : Hid (w.heap.size = N) := hN
  have HBW : Hid (Below w.heap.size w W) := hbw
  have HL : Hid (read.length = n ∧ xs.length = ni) := ⟨hn, hni⟩
  have wi : IntKind.i64.wrap ((ni : Int) - 1) = (ni : Int) - 1 := by rw [IntKind.wrap_i64]; omega
  clear h1 hi hW hN hbw hn hni
  by_cases g0 : i < 0
  · have HR : Hid (-1 = r) := by show _ = _; rw [← hr]; unfold takesM; rw [if_pos (Or.inl g0)]
    clear hr
    go_enter Try.func45, Try.ntmps45
    go_upto_region 1 with fail
    rw [← HW.out, HN.out]
    go_wp2
    go_ret
    exact ⟨ret_int HR.out, HBW.out⟩
  · by_cases g1 : i = (ni : Int) - 1
    · by_cases g2 : ne = 0
      · have HR : Hid (-1 = r) := by show _ = _; rw [← hr]; unfold takesM; rw [if_pos (Or.inr (Or.inr g2))]
        have q1 : (i == (ni : Int) - 1) = true := by simp [g1]
        clear hr
        subst g2
        go_enter Try.func45, Try.ntmps45
        go_upto_region 1 with fail
        rw [← HW.out, HN.out]
        go_wp2
        go_ret
        exact ⟨ret_int HR.out, HBW.out⟩
      · obtain ⟨k, hk⟩ : ∃ k : Nat, i = (k : Int) := ⟨i.toNat, by omega⟩
        subst hk
        obtain rfl : ni = k + 1 := by omega
        have hkn : k < k + 1 := by omega
        obtain ⟨b5, off5, cs, rfl, hcl5, ⟨vo, vs, rfl, hvo, hvs⟩, hc⟩ := HSI.out.at k (by rw [HL.out.2]; exact hkn)
        have c3 := hc 0 (by simp)
        simp at c3
        have hop : (xs.map (·.op)).getD k 0 = (xs[k]'(by rw [HL.out.2]; exact hkn)).op := by
          rw [List.getD_eq_getElem?_getD, List.getElem?_map, List.getElem?_eq_getElem (by rw [HL.out.2]; exact hkn)]
          rfl
        have l5 : b5 < W.heap.size := block_lt c3
        have hr2 : mixL 7 ([seed, (xs[k]'(by rw [HL.out.2]; exact hkn)).op, -1] ++ read) % (ne : Int) = r := by
          rw [← hr]
          unfold takesM
          rw [if_neg (by rw [HL.out.2]; omega), Int.toNat_natCast, hop]
        clear hc hcl5 hvo hvs hr hop
        generalize (xs[k]'(by rw [HL.out.2]; exact hkn)).op = op at *
        obtain ⟨x, hx⟩ : ∃ x, mixL 7 ([seed, op, -1] ++ read) = x := ⟨_, rfl⟩
        have x0 : 0 ≤ x := by rw [← hx]; exact (mixL_bd _ _ (by decide) (by decide)).1
        have x1 : x < 1000003 := by rw [← hx]; exact (mixL_bd _ _ (by decide) (by decide)).2
        rw [hx] at hr2
        have ne0 : 0 < ne := by omega
        have HX : Hid (mixL 7 ([seed, op, -1] ++ read) = x) := hx
        have HR : Hid (x % (ne : Int) = r) := hr2
        have q2 : ((ne : Int) == 0) = false := by simp [g2]
        have HSF : Hid (∀ w', Below W.heap.size W w' → (fun w' => w'.cell? ⟨N, 1, none⟩ = some (.slice (some ⟨b5, off5, none⟩) (k + 1) ci) ∧ w'.cell? ⟨N, 2, none⟩ = some (.slice ae ne ce) ∧ w'.cell? ⟨b5, off5 + k * 3, none⟩ = some (.int .i64 op) ∧ Below W.heap.size W w') w') := fun w' hh => ⟨(hh.cell lN).trans c1, (hh.cell lN).trans c2, (hh.cell l5).trans c3, hh⟩
        have hkc : k < k + 1 + 1 := by omega
        have hkk : (k : Int) < (k : Int) + 1 := by omega
        have HDA : Hid (∀ ob, Below W.heap.size W (W.drew.alloc ob)) := fun ob => (Below.refl _ _).drew.alloc (Nat.le_refl _) _
        have wk : IntKind.i64.wrap (k : Int) = (k : Int) := by rw [IntKind.wrap_i64]; omega
        clear hx hr2 g0 g1 g2
        go_enter Try.func45, Try.ntmps45
        go_upto_region 1 with fail
        rw [← HW.out, HN.out]
        go_upto_region 3 with fail
        clear c1 c2 c3
        refine wp_region_X (fun w' => w'.cell? ⟨N, 1, none⟩ = some (.slice (some ⟨b5, off5, none⟩) (k + 1) ci) ∧ w'.cell? ⟨N, 2, none⟩ = some (.slice ae ne ce) ∧ w'.cell? ⟨b5, off5 + k * 3, none⟩ = some (.int .i64 op) ∧ Below W.heap.size W w') 99 (by kernel_rfl) (HSF.out _ (Below.refl _ _).drew) (fun hHeld => ?_)
        refine wpXt (v := ?_) 0 rfl (by kernel_rfl) (fun _ _ _ h => h) (by rfl) ?_ hHeld ?_
        rotate_left
        · intro w' hSw
          go_simp <;> with_reducible rfl
        try simp only [Act.put, List.setIfInBounds_toArray, List.set_cons_zero, List.set_cons_succ]
        refine wpXt (v := ?_) 1 rfl (by kernel_rfl) (fun _ _ _ h => h) (by rfl) ?_ hHeld ?_
        rotate_left
        · intro w' hSw
          go_simp <;> with_reducible rfl
        try simp only [Act.put, List.setIfInBounds_toArray, List.set_cons_zero, List.set_cons_succ]
        refine wpXt (v := ?_) 2 rfl (by kernel_rfl) (fun _ _ _ h => h) (by rfl) ?_ hHeld ?_
        rotate_left
        · intro w' hSw
          go_simp <;> with_reducible rfl
        try simp only [Act.put, List.setIfInBounds_toArray, List.set_cons_zero, List.set_cons_succ]
        refine wpXt (v := ?_) 3 rfl (by kernel_rfl) (fun _ _ _ h => h) (by rfl) ?_ hHeld ?_
        rotate_left
        · intro w' hSw
          go_simp <;> with_reducible rfl
        try simp only [Act.put, List.setIfInBounds_toArray, List.set_cons_zero, List.set_cons_succ]
        refine wpXt (v := ?_) 4 rfl (by kernel_rfl) (fun _ _ _ h => h) (by rfl) ?_ hHeld ?_
        rotate_left
        · intro w' hSw
          go_simp <;> with_reducible rfl
        try simp only [Act.put, List.setIfInBounds_toArray, List.set_cons_zero, List.set_cons_succ]
        refine wpXt (v := ?_) 5 rfl (by kernel_rfl) (fun _ _ _ h => h) (by rfl) ?_ hHeld ?_
        rotate_left
        · intro w' hSw
          go_simp <;> with_reducible rfl
        try simp only [Act.put, List.setIfInBounds_toArray, List.set_cons_zero, List.set_cons_succ]
        refine wpXt (v := ?_) 6 rfl (by kernel_rfl) (fun _ _ _ h => h) (by rfl) ?_ hHeld ?_
        rotate_left
        · intro w' hSw
          go_simp <;> with_reducible rfl
        try simp only [Act.put, List.setIfInBounds_toArray, List.set_cons_zero, List.set_cons_succ]
        refine wpXt (v := ?_) 9 rfl (by kernel_rfl) (fun _ _ _ h => h) (by rfl) ?_ hHeld ?_
        rotate_left
        · intro w' hSw
          go_simp <;> with_reducible rfl
        try simp only [Act.put, List.setIfInBounds_toArray, List.set_cons_zero, List.set_cons_succ]
        refine wpXt (v := ?_) 11 rfl (by kernel_rfl) (fun _ _ _ h => h) (by rfl) ?_ hHeld ?_
        rotate_left
        · intro w' hSw
          go_simp <;> with_reducible rfl
        try simp only [Act.put, List.setIfInBounds_toArray, List.set_cons_zero, List.set_cons_succ]
        refine wpXt (v := ?_) 12 rfl (by kernel_rfl) (fun _ _ _ h => h) (by rfl) ?_ hHeld ?_
        rotate_left
        · intro w' hSw
          go_simp <;> with_reducible rfl
        try simp only [Act.put, List.setIfInBounds_toArray, List.set_cons_zero, List.set_cons_succ]
        refine wpXt (v := ?_) 13 rfl (by kernel_rfl) (fun _ _ _ h => h) (by rfl) ?_ hHeld ?_
        rotate_left
        · intro w' hSw
          go_simp <;> with_reducible rfl
        try simp only [Act.put, List.setIfInBounds_toArray, List.set_cons_zero, List.set_cons_succ]
        refine wpXs 7 rfl (by kernel_rfl) (fun K hK => ?_)
        go_simp
        refine hK.out _ _ (HSF.out _ (HDA.out _)) (fun hHeld => ?_)
        clear hK K
        try simp only [Act.put, List.setIfInBounds_toArray, List.set_cons_zero, List.set_cons_succ]
        have s3 : SlOf (W.drew.alloc (.cells #[.int .i64 seed, .int .i64 op, .int .i64 (-1)] 3)) 1 RInt (.slice (some ⟨W.drew.heap.size, 0, none⟩) 3 3) [seed, op, -1] := three_sl seed op (-1)
        have hb3 : Below W.heap.size W (W.drew.alloc (.cells #[.int .i64 seed, .int .i64 op, .int .i64 (-1)] 3)) := (Below.refl _ _).drew.alloc (Nat.le_refl _) _
        have HC := mix_any [seed, op, -1] (some ⟨W.drew.heap.size, 0, none⟩) 3 3 _ _ rfl s3 rfl
        have HD := mixed_any read a n c (mixL 7 [seed, op, -1]) x _ HL.out.1 (HS1.out.below hb3 fun _ _ h => h) (mix3_bd _ _ _).1 (mix3_bd _ _ _).2 (by rw [← mixL_app]; exact HX.out)
        have HB3 : Hid (Below W.heap.size W (W.drew.alloc (.cells #[.int .i64 seed, .int .i64 op, .int .i64 (-1)] 3))) := hb3
        generalize mixL 7 [seed, op, -1] = y at *
        clear s3 hb3
        refine wpXs 8 rfl (by kernel_rfl) (fun K hK => ?_)
        go_simp
        refine HC.mono ?_
        clear HC
        rintro e w' ⟨rfl, rfl⟩
        refine hK.out _ _ (HSF.out _ HB3.out) (fun hHeld => ?_)
        clear hK K
        try simp only [Act.put, List.setIfInBounds_toArray, List.set_cons_zero, List.set_cons_succ]
        refine wpXs 10 rfl (by kernel_rfl) (fun K hK => ?_)
        go_simp
        refine HD.mono ?_
        clear HD
        rintro e w' ⟨rfl, rfl⟩
        refine hK.out _ _ (HSF.out _ HB3.out) (fun hHeld => ?_)
        clear hK K
        try simp only [Act.put, List.setIfInBounds_toArray, List.set_cons_zero, List.set_cons_succ]
        refine wpXs 14 rfl (by kernel_rfl) (fun K hK => ?_)
        go_simp
        rw [if_neg (by omega), Int.tmod_eq_emod_of_nonneg x0]
        go_simp
        refine hK.out _ _ (HSF.out _ HB3.out) (fun hHeld => ?_)
        clear hK K
        try simp only [Act.put, List.setIfInBounds_toArray, List.set_cons_zero, List.set_cons_succ]
        refine wpXs 15 rfl (by kernel_rfl) (fun K hK => ?_)
        go_simp
        refine hK.out _ _ (HSF.out _ HB3.out) (fun hHeld => ?_)
        clear hK K
        try simp only [Act.put, List.setIfInBounds_toArray, List.set_cons_zero, List.set_cons_succ]
        refine wpAnyX_done (by kernel_rfl) ?_ _
        have HE : Hid (Below w.heap.size w _) := HBW.out.trans (HB3.out.mono HBW.out.size)
        go_wp2
        go_ret
        exact ⟨ret_int HR.out, HE.out⟩
    · have HR : Hid (-1 = r) := by show _ = _; rw [← hr]; unfold takesM; rw [if_pos (Or.inr (Or.inl (by rw [HL.out.2]; exact g1)))]
      have q1 : (i == (ni : Int) - 1) = false := by simp [g1]
      clear hr
      go_enter Try.func45, Try.ntmps45
      go_upto_region 1 with fail
      rw [← HW.out, HN.out]
      go_wp2
      go_ret
      exact ⟨ret_int HR.out, HBW.out⟩
end Go.Proofs.Ytjbjnndmpheedaa
