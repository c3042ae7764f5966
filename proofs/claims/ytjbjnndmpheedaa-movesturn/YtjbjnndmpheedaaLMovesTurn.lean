/-
  The walk of MovesTurn: moves of an edit are done one by one.
-/
import Derived.Test.YtjbjnndmpheedaaG5
import Derived.OpenShut
import Derived.Lib.Walk
namespace Go.Proofs.Ytjbjnndmpheedaa
open Go.RowKit Go.ChangeShapes Go.WideShapes
set_option linter.unusedVariables false

/-- Elements of two cells and more that begin with a number do not lie in a box of two slices and a number. -/
theorem sl_apartO {α : Type} {w : World} {k b T : Nat} {R : List Value → α → Prop} {v : Value} {l : List α} {f : Nat → Value} (h : SlOf w k R v l) (hk : 2 ≤ k) (hint : ∀ cs x, R cs x → ∃ q n, cs.head? = some (.int q n)) (hrow : w.rowIs b T 3 f) (h0 : ∃ a n c, f 0 = .slice a n c) (h1 : ∃ a n c, f 1 = .slice a n c) : l ≠ [] → v.ownBlock ≠ some b := fun hl hv => by
  obtain ⟨a, cap, hv2, _, h⟩ := h
  rcases h with h | ⟨q, off, ha, h⟩
  · exact hl h
  · obtain ⟨cs, g1, g2, g3⟩ := h 0 (List.length_pos_iff.2 hl)
    obtain ⟨z, n, hz⟩ := hint _ _ g2
    have hq : q = b := by rw [hv2, ha] at hv; simpa [Value.ownBlock] using hv
    subst hq
    obtain ⟨cc, e1, e2, e3⟩ := hrow
    have c0 := g3 0 (by omega)
    have c1 := g3 1 (by omega)
    have hcs0 : cs[0]'(by omega) = .int z n := by
      rw [List.head?_eq_getElem?, List.getElem?_eq_getElem (by omega)] at hz
      exact Option.some.inj hz
    rw [hcs0] at c0
    simp [World.cell?, e1] at c0 c1
    have hlt : off + 1 < cc.size := (Array.getElem?_eq_some_iff.1 c1).1
    have ho : off = 0 ∨ off = 1 := by omega
    rcases ho with rfl | rfl
    · obtain ⟨a', n', c', hs⟩ := h0
      have := e3 0 (by omega)
      rw [hs, c0] at this
      simp at this
    · obtain ⟨a', n', c', hs⟩ := h1
      have := e3 1 (by omega)
      rw [hs, c0] at this
      simp at this
theorem sl_offM {α : Type} {w w' : World} {k b : Nat} {R R' : List Value → α → Prop} {v : Value} {l : List α} (h : SlOf w k R v l) (hk : ∀ q, q ≠ b → w'.heap[q]? = w.heap[q]?) (hne : l ≠ [] → v.ownBlock ≠ some b) (hR : ∀ x ∈ l, ∀ cs, R cs x → R' cs x) : SlOf w' k R' v l := by
  have h2 := sl_off h hk hne fun _ _ h => h
  obtain ⟨a, cap, hv, hl, h⟩ := h2
  refine ⟨a, cap, hv, hl, h.imp id ?_⟩
  rintro ⟨q, off, ha, h⟩
  refine ⟨q, off, ha, fun i hi => ?_⟩
  obtain ⟨cs, h1, h2, h3⟩ := h i hi
  exact ⟨cs, h1, hR _ (List.getElem_mem hi) _ h2, h3⟩
theorem hintM : ∀ cs x, RMv cs x → ∃ q n, cs.head? = some (.int q n) := fun cs x h => ⟨_, _, (congrArg List.head? h).trans rfl⟩
theorem hintEd {w : World} : ∀ cs x, REd w cs x → ∃ q n, cs.head? = some (.int q n) := fun cs x h => by
  obtain ⟨_, h, _⟩ := h
  exact ⟨_, _, (congrArg List.head? h).trans rfl⟩
def twoS (f : Nat → Value) : Prop := ∀ i, i < 2 → ∃ a n c, f i = .slice a n c
def zeroO : Nat → Value := fun q => if q = 2 then .int .i64 0 else .slice none 0 0
theorem rows_ne {w : World} {q1 q2 t1 t2 n1 n2 : Nat} {f1 f2 : Nat → Value} (h1 : w.rowIs q1 t1 n1 f1) (h2 : w.rowIs q2 t2 n2 f2) (ht : t1 ≠ t2) : q1 ≠ q2 := fun e => by
  obtain ⟨c1, g1, _⟩ := h1
  obtain ⟨c2, g2, _⟩ := h2
  rw [e, g2] at g1
  simp at g1
  exact ht g1.2.symm
/-- What 'pair' has laid, and the edits. -/
structure Ct (eds : List Ed) (pa pb : Pl) (bv bb b1 b2 b3 b4 be : Nat) (w : World) : Prop where
  fv : SlOf w 1 RInt (.slice (some ⟨bv, 0, none⟩) 1 1) [0]
  fb : SlOf w 3 (RBlk w) (.slice (some ⟨bb, 0, none⟩) 1 1) [mjBlk 2 [] []]
  pl : Pl3 0 pa pb b1 b2 b3 b4 w
  ed : SlOf w 3 (REd w) (.slice (some ⟨be, 0, none⟩) 1 1) eds
section
variable {eds : List Ed} {pa pb : Pl} {bv bb b1 b2 b3 b4 be : Nat} {w w' : World}
theorem Ct.below (h : Ct eds pa pb bv bb b1 b2 b3 b4 be w) (hb : Below w.heap.size w w') : Ct eds pa pb bv bb b1 b2 b3 b4 be w' :=
  ⟨h.fv.below hb fun _ _ h => h, h.fb.below hb (RBlk.below hb), h.pl.agree fun q _ hq => hb.block q hq, h.ed.below hb (REd.below hb)⟩
theorem Pl3.off {q T nr : Nat} {f : Nat → Value} (h : Pl3 0 pa pb b1 b2 b3 b4 w) (hrow : w.rowIs q T nr f) (h1 : T ≠ 65) (h2 : T ≠ 64) (h3 : T ≠ 37) (hk : ∀ p, p ≠ q → w'.heap[p]? = w.heap[p]?) : Pl3 0 pa pb b1 b2 b3 b4 w' :=
  ⟨h.r1.of_block (hk _ (rows_ne h.r1 hrow (Ne.symm h1))), h.r2.of_block (hk _ (rows_ne h.r2 hrow (Ne.symm h2))), h.r3.of_block (hk _ (rows_ne h.r3 hrow (Ne.symm h3))), h.r4.of_block (hk _ (rows_ne h.r4 hrow (Ne.symm h3))), h.l1, h.l2, h.l3, h.l4, h.n34⟩
theorem ed_offF {q : Nat} {f : Nat → Value} {v : Value} (h : SlOf w 3 (REd w) v eds) (hrow : w.rowIs q 25 2 f) (hf : twoS f) (hk : ∀ p, p ≠ q → w'.heap[p]? = w.heap[p]?) : SlOf w' 3 (REd w') v eds :=
  sl_off h hk (sl_apart h hintEd hrow hf) fun cs x hx => by
    obtain ⟨vm, e, s⟩ := hx
    exact ⟨vm, e, sl_off s hk (sl_apart s hintM hrow hf) fun _ _ h => h⟩
theorem Ct.offF {q : Nat} {f : Nat → Value} (h : Ct eds pa pb bv bb b1 b2 b3 b4 be w) (hrow : w.rowIs q 25 2 f) (hf : twoS f) (hk : ∀ p, p ≠ q → w'.heap[p]? = w.heap[p]?) : Ct eds pa pb bv bb b1 b2 b3 b4 be w' :=
  ⟨sl_off h.fv hk (sl_apart h.fv hintI hrow hf) fun _ _ h => h, sl_off h.fb hk (fun _ e => sl_apart3 (off := 0) h.fb (by simp) hrow (by simpa [Value.ownBlock] using e)) (RBlk.off hrow hf hk), h.pl.off hrow (by decide) (by decide) (by decide) hk, ed_offF h.ed hrow hf hk⟩
theorem Ct.offO {q : Nat} (h : Ct eds pa pb bv bb b1 b2 b3 b4 be w) (hrow : w.rowIs q 32 3 zeroO) (hk : ∀ p, p ≠ q → w'.heap[p]? = w.heap[p]?) : Ct eds pa pb bv bb b1 b2 b3 b4 be w' := by
  have z0 : ∃ a n c, zeroO 0 = .slice a n c := ⟨_, _, _, rfl⟩
  have z1 : ∃ a n c, zeroO 1 = .slice a n c := ⟨_, _, _, rfl⟩
  refine ⟨sl_off h.fv hk (fun _ e => ?_) fun _ _ h => h, sl_offM h.fb hk (fun _ e => ?_) fun x hxm cs hx => ?_, h.pl.off hrow (by decide) (by decide) (by decide) hk, sl_off h.ed hk (sl_apartO h.ed (by omega) hintEd hrow z0 z1) fun cs x hx => ?_⟩
  · have hq : bv = q := by simpa [Value.ownBlock] using e
    obtain ⟨b, off, cs, e1, e2, e3, e4⟩ := h.fv.at 0 (by simp)
    simp at e1
    have c := e4 0 (by omega)
    have c2 := hrow.cell (i := 0) (by omega)
    have e3 : cs = [.int .i64 0] := e3
    subst e3
    obtain ⟨r1, r2⟩ := e1
    rw [← r1, ← r2, hq] at c
    simp only [Nat.zero_mul, Nat.add_zero] at c
    rw [c2] at c
    cases c
  · have hq : bb = q := by simpa [Value.ownBlock] using e
    obtain ⟨b, off, cs, e1, e2, ⟨vp, vi, ve, e3, _, _, s3⟩, e4⟩ := h.fb.at 0 (by simp)
    simp at e1
    have c := e4 2 (by omega)
    have c2 := hrow.cell (i := 2) (by omega)
    subst e3
    obtain ⟨r1, r2⟩ := e1
    rw [← r1, ← r2, hq] at c
    simp only [Nat.zero_mul, Nat.zero_add] at c
    rw [c2] at c
    obtain ⟨a', c', hv, _⟩ := s3.out
    rw [hv] at c
    cases c
  · obtain rfl : x = mjBlk 2 [] [] := by simpa using hxm
    obtain ⟨vp, vi, ve, g1, g2, g3, g4⟩ := hx
    refine ⟨vp, vi, ve, g1, sl_off g2 hk (fun h => absurd rfl h) fun _ _ h => h, sl_off g3 hk (sl_apartO g3 (by omega) hintX hrow z0 z1) fun cs x hx => ?_, sl_offM g4 hk (fun h => absurd rfl h) fun x hx => by cases hx⟩
    obtain ⟨vo, vs, k1, k2, k3⟩ := hx
    exact ⟨vo, vs, k1, sl_off k2 hk (sl_apartO k2 (by omega) hintO hrow z0 z1) fun _ _ h => h, sl_off k3 hk (sl_apartO k3 (by omega) hintR hrow z0 z1) fun _ _ h => h⟩
  · obtain ⟨vm, e, s⟩ := hx
    exact ⟨vm, e, sl_off s hk (sl_apartO s (by omega) hintM hrow z0 z1) fun _ _ h => h⟩
end
theorem sl_take {w : World} {aj : Option Addr} {nj cj : Nat} {jl : List Int} (h : SlOf w 1 RInt (.slice aj nj cj) jl) (q : Nat) : SlOf w 1 RInt (.slice aj (jl.take q).length cj) (jl.take q) := by
  obtain ⟨a', c', hv, hl, h⟩ := h
  simp only [Value.slice.injEq] at hv
  refine ⟨aj, cj, rfl, by rw [List.length_take]; omega, ?_⟩
  rcases h with h | ⟨b, off, ha, h⟩
  · left
    rw [h]
    simp
  · refine Or.inr ⟨b, off, by rw [hv.1, ha], fun i hi => ?_⟩
    have hi2 : i < jl.length := by rw [List.length_take] at hi; omega
    obtain ⟨cs, h1, h2, h3⟩ := h i hi2
    exact ⟨cs, h1, by rw [List.getElem_take]; exact h2, h3⟩
def MtR (B a b : Nat) : Nat → (Nat → Value) → World → Prop
  | 0, vs, w => vs 0 = .agg #[.int .i64 2, .slice none 0 0, .slice none 0 0]
  | 1, vs, w => vs 1 = .agg #[.int .i64 1, .int .i64 0, .int .i64 (a : Int)]
  | 2, vs, w => vs 2 = .agg #[.int .i64 1, .int .i64 0, .int .i64 5]
  | 3, vs, w => vs 3 = .agg #[.int .i64 1, .int .i64 0, .int .i64 (a : Int)]
  | 4, vs, w => vs 4 = .agg #[.int .i64 2, .int .i64 0, .int .i64 (b : Int)]
  | 5, vs, w => vs 5 = .agg #[.int .i64 1, .int .i64 0, .int .i64 (a : Int), .int .i64 2, .int .i64 0, .int .i64 (b : Int)]
  | 6, vs, w => vs 6 = .agg #[.int .i64 2, .int .i64 0, .int .i64 (b : Int)]
  | 7, vs, w => vs 7 = .agg #[.int .i64 1, .int .i64 0, .int .i64 5]
  | 8, vs, w => vs 8 = .agg #[.int .i64 2, .int .i64 0, .int .i64 (b : Int), .int .i64 1, .int .i64 0, .int .i64 5]
  | 9, vs, w => ∃ x, vs 9 = .slice (some ⟨x, 0, none⟩) 2 2 ∧ SlOf w 6 RMv (.slice (some ⟨x, 0, none⟩) 2 2) [⟨rgP a, slP b⟩, ⟨slP b, rgP 5⟩]
  | 10, vs, w => ∃ x, vs 10 = .agg #[.int .i64 0, .int .i64 1, .slice (some ⟨x, 0, none⟩) 2 2] ∧ SlOf w 6 RMv (.slice (some ⟨x, 0, none⟩) 2 2) [⟨rgP a, slP b⟩, ⟨slP b, rgP 5⟩]
  | 11, vs, w => ∃ x, vs 11 = .slice (some ⟨x, 0, none⟩) 1 1 ∧ SlOf w 3 (REd w) (.slice (some ⟨x, 0, none⟩) 1 1) (mtE a b)
  | 12, vs, w => ∃ bv bb b1 b2 b3 b4 be, vs 12 = .tuple #[.agg #[.slice (some ⟨bv, 0, none⟩) 1 1, .slice (some ⟨bb, 0, none⟩) 1 1], .agg #[.slice (some ⟨b1, 0, none⟩) 1 1, .slice (some ⟨be, 0, none⟩) 1 1, .int .i64 3]] ∧ Ct (mtE a b) (rgP a) (rgP 5) bv bb b1 b2 b3 b4 be w
  | 13, vs, w => ∃ bv bb b1 b2 b3 b4 be, vs 13 = .tuple #[.agg #[.slice (some ⟨bv, 0, none⟩) 1 1, .slice (some ⟨bb, 0, none⟩) 1 1], .agg #[.slice (some ⟨b1, 0, none⟩) 1 1, .slice (some ⟨be, 0, none⟩) 1 1, .int .i64 3]] ∧ Ct (mtE a b) (rgP a) (rgP 5) bv bb b1 b2 b3 b4 be w
  | 14, vs, w => ∃ bv bb b1 b2 b3 b4 be, vs 14 = .agg #[.slice (some ⟨bv, 0, none⟩) 1 1, .slice (some ⟨bb, 0, none⟩) 1 1] ∧ Ct (mtE a b) (rgP a) (rgP 5) bv bb b1 b2 b3 b4 be w
  | 15, vs, w => ∃ bv bb b1 b2 b3 b4 be, vs 15 = .agg #[.slice (some ⟨b1, 0, none⟩) 1 1, .slice (some ⟨be, 0, none⟩) 1 1, .int .i64 3] ∧ Ct (mtE a b) (rgP a) (rgP 5) bv bb b1 b2 b3 b4 be w
  | 16, vs, w => ∃ x f, vs 16 = .pointer (some ⟨x, 0, none⟩) ∧ B ≤ x ∧ w.rowIs x 25 2 f ∧ twoS f
  | 17, vs, w => ∃ x, vs 17 = .pointer (some ⟨x, 0, none⟩) ∧ B ≤ x ∧ w.rowIs x 32 3 zeroO
  | 18, vs, w => ∃ x bv bb b1 b2 b3 b4 be, vs 16 = .pointer (some ⟨x, 0, none⟩) ∧ B ≤ x ∧ w.rowIs x 25 2 (fun q => if q = 0 then .slice (some ⟨bv, 0, none⟩) 1 1 else .slice (some ⟨bb, 0, none⟩) 1 1) ∧ Ct (mtE a b) (rgP a) (rgP 5) bv bb b1 b2 b3 b4 be w
  | 19, vs, w => ∃ x y bv bb b1 b2 b3 b4 be cv cb c1 c2 c3 c4 ce, vs 16 = .pointer (some ⟨x, 0, none⟩) ∧ vs 17 = .pointer (some ⟨y, 0, none⟩) ∧ w.rowIs x 25 2 (fun q => if q = 0 then .slice (some ⟨bv, 0, none⟩) 1 1 else .slice (some ⟨bb, 0, none⟩) 1 1) ∧ w.rowIs y 32 3 (fun q => if q = 0 then .slice (some ⟨c1, 0, none⟩) 1 1 else if q = 1 then .slice (some ⟨ce, 0, none⟩) 1 1 else .int .i64 3) ∧ Ct (mtE a b) (rgP a) (rgP 5) bv bb b1 b2 b3 b4 be w ∧ Ct (mtE a b) (rgP a) (rgP 5) cv cb c1 c2 c3 c4 ce w
  | _, _, _ => True
structure KpM (B a b : Nat) (w w' : World) : Prop where
  mv : ∀ x, SlOf w 6 RMv (.slice (some ⟨x, 0, none⟩) 2 2) [⟨rgP a, slP b⟩, ⟨slP b, rgP 5⟩] → SlOf w' 6 RMv (.slice (some ⟨x, 0, none⟩) 2 2) [⟨rgP a, slP b⟩, ⟨slP b, rgP 5⟩]
  ed : ∀ x, SlOf w 3 (REd w) (.slice (some ⟨x, 0, none⟩) 1 1) (mtE a b) → SlOf w' 3 (REd w') (.slice (some ⟨x, 0, none⟩) 1 1) (mtE a b)
  ct : ∀ bv bb b1 b2 b3 b4 be, Ct (mtE a b) (rgP a) (rgP 5) bv bb b1 b2 b3 b4 be w → Ct (mtE a b) (rgP a) (rgP 5) bv bb b1 b2 b3 b4 be w'
  fr : ∀ x f, w.rowIs x 25 2 f → twoS f → ∃ f', w'.rowIs x 25 2 f' ∧ twoS f'
  orow : ∀ x, w.rowIs x 32 3 zeroO → w'.rowIs x 32 3 zeroO
theorem KpM.below {B a b : Nat} {w w' : World} (hb : Below w.heap.size w w') : KpM B a b w w' :=
  ⟨fun x h => h.below hb fun _ _ h => h, fun x h => h.below hb (REd.below hb), fun _ _ _ _ _ _ _ h => h.below hb, fun x f h ht => ⟨f, h.of_block (hb.block _ h.lt), ht⟩, fun x h => h.of_block (hb.block _ h.lt)⟩
theorem MtR.keep {B a b : Nat} {vs : Nat → Value} {w w' : World} {L : Nat → Bool} {i : Nat} {v : Value} (hk : KpM B a b w w') (h18 : i ≠ 18 → ∀ x f, w.rowIs x 25 2 f → w'.rowIs x 25 2 f) (h16 : i = 16 → vs 16 = undef) (h : ∀ j, j < 19 → L j = true → MtR B a b j vs w) : ∀ j, j < 19 → j ≠ i → L j = true → MtR B a b j (upV vs i v) w' := fun j hj hji hl => by
  have h1 := h j hj hl
  match j, hj with
  | 0, _ => exact (upV_ne vs v hji).trans h1
  | 1, _ => exact (upV_ne vs v hji).trans h1
  | 2, _ => exact (upV_ne vs v hji).trans h1
  | 3, _ => exact (upV_ne vs v hji).trans h1
  | 4, _ => exact (upV_ne vs v hji).trans h1
  | 5, _ => exact (upV_ne vs v hji).trans h1
  | 6, _ => exact (upV_ne vs v hji).trans h1
  | 7, _ => exact (upV_ne vs v hji).trans h1
  | 8, _ => exact (upV_ne vs v hji).trans h1
  | 9, _ => obtain ⟨x, e, s⟩ := h1; exact ⟨x, (upV_ne vs v hji).trans e, hk.mv x s⟩
  | 10, _ => obtain ⟨x, e, s⟩ := h1; exact ⟨x, (upV_ne vs v hji).trans e, hk.mv x s⟩
  | 11, _ => obtain ⟨x, e, s⟩ := h1; exact ⟨x, (upV_ne vs v hji).trans e, hk.ed x s⟩
  | 12, _ => obtain ⟨bv, bb, b1, b2, b3, b4, be, e, s⟩ := h1; exact ⟨bv, bb, b1, b2, b3, b4, be, (upV_ne vs v hji).trans e, hk.ct _ _ _ _ _ _ _ s⟩
  | 13, _ => obtain ⟨bv, bb, b1, b2, b3, b4, be, e, s⟩ := h1; exact ⟨bv, bb, b1, b2, b3, b4, be, (upV_ne vs v hji).trans e, hk.ct _ _ _ _ _ _ _ s⟩
  | 14, _ => obtain ⟨bv, bb, b1, b2, b3, b4, be, e, s⟩ := h1; exact ⟨bv, bb, b1, b2, b3, b4, be, (upV_ne vs v hji).trans e, hk.ct _ _ _ _ _ _ _ s⟩
  | 15, _ => obtain ⟨bv, bb, b1, b2, b3, b4, be, e, s⟩ := h1; exact ⟨bv, bb, b1, b2, b3, b4, be, (upV_ne vs v hji).trans e, hk.ct _ _ _ _ _ _ _ s⟩
  | 16, _ => obtain ⟨x, f, e, l, r, s⟩ := h1; obtain ⟨f', r', s'⟩ := hk.fr x f r s; exact ⟨x, f', (upV_ne vs v hji).trans e, l, r', s'⟩
  | 17, _ => obtain ⟨x, e, l, r⟩ := h1; exact ⟨x, (upV_ne vs v hji).trans e, l, hk.orow x r⟩
  | 18, _ =>
    obtain ⟨x, bv, bb, b1, b2, b3, b4, be, e, l, r, s⟩ := h1
    by_cases e16 : i = 16
    · rw [h16 e16] at e
      cases e
    · exact ⟨x, bv, bb, b1, b2, b3, b4, be, (upV_ne vs v (Ne.symm e16)).trans e, l, h18 (Ne.symm hji) x _ r, hk.ct _ _ _ _ _ _ _ s⟩
  | n + 19, hj => exact absurd hj (by omega)

set_option maxRecDepth 8000 in
set_option maxHeartbeats 16000000 in
theorem movesTurn_walk (n m : Int) (wn : (Lit.int .i64 n).wf = true) (wm : (Lit.int .i64 m).wf = true) (seed : Int) (aj : Option Addr) (nj cj : Nat) (jl : List Int) (w : World) (hj : SlOf w 1 RInt (.slice aj nj cj) jl) (hjl : jl.length = nj) (hjc : nj ≤ cj) :
    Calls Try.prog 4 #[.int .i64 n, .int .i64 m, .int .i64 seed, .slice aj nj cj] w fun e w' => e = .returned (.bool true) ∧ Below w.heap.size w w' := by
  obtain ⟨n0, n1⟩ := bounds_i64 wn
  obtain ⟨m0, m1⟩ := bounds_i64 wm
  obtain ⟨p0, p1⟩ := pickedOf_bd n 4 (by decide)
  obtain ⟨q0, q1⟩ := pickedOf_bd m 3 (by decide)
  obtain ⟨a, ha⟩ : ∃ a : Nat, pickedOf n 4 = (a : Int) := ⟨(pickedOf n 4).toNat, by omega⟩
  obtain ⟨b, hb⟩ : ∃ b : Nat, pickedOf m 3 = (b : Int) := ⟨(pickedOf m 3).toNat, by omega⟩
  have ha4 : a < 4 := by omega
  have hb3 : b < 3 := by omega
  have HPA : Hid (pickedOf n 4 = (a : Int)) := ha
  have HPB : Hid (pickedOf m 3 = (b : Int)) := hb
  have HJ0 : Hid (SlOf w 1 RInt (.slice aj nj cj) jl ∧ jl.length = nj ∧ nj ≤ cj) := ⟨hj, hjl, hjc⟩
  clear p0 p1 q0 q1 ha hb hj hjl hjc
  have HCP := picked_is n 4 (a : Int) w HPA.out (by omega) (by omega) (by omega) (by omega)
  go_enter Try.func4, Try.ntmps4
  go_wp2_with fail
  refine HCP.mono ?_
  clear HCP
  rintro e w1 ⟨rfl, hw1⟩
  rw [hw1]
  clear hw1 w1
  go_wp2_with fail
  refine (reg_any (a : Int) w).mono ?_
  rintro e w1 ⟨rfl, bb1⟩
  obtain ⟨W1, hW1⟩ : ∃ W1, W1 = w1.alloc (.cells #[.int .i64 1, .int .i64 0, .int .i64 (a : Int)] 37) := ⟨_, rfl⟩
  obtain ⟨G1, hG1⟩ : ∃ G1, w1.heap.size = G1 := ⟨_, rfl⟩
  have rP : W1.rowIs G1 37 3 (plF (rgP a)) := by
    rw [hW1, ← hG1]
    exact World.rowIs_alloc _ _ _ _ fun i hi => by
      simp at hi
      match i, hi with | 0, _ => rfl | 1, _ => rfl | 2, _ => rfl
  have bW1 : Below w.heap.size w W1 := by rw [hW1]; exact bb1.alloc bb1.size _
  have HP1 : Hid (W1.rowIs G1 37 3 (plF (rgP a)) ∧ Below w.heap.size w W1) := ⟨rP, bW1⟩
  have HW1 : Hid (W1 = w1.alloc (.cells #[.int .i64 1, .int .i64 0, .int .i64 (a : Int)] 37)) := hW1
  have HG1 : Hid (w1.heap.size = G1) := hG1
  clear hW1 hG1 rP bW1 bb1
  go_upto_region 2 with fail
  rw [← HW1.out, HG1.out]
  clear HW1 HG1
  have HCP := picked_is m 3 (b : Int) W1 HPB.out (by omega) (by omega) (by omega) (by omega)
  go_wp2_with fail
  refine HCP.mono ?_
  clear HCP
  rintro e w2 ⟨rfl, hw2⟩
  rw [hw2]
  clear hw2 w2
  go_wp2_with fail
  refine (slot_any (b : Int) W1).mono ?_
  rintro e w2 ⟨rfl, bb2⟩
  obtain ⟨W2, hW2⟩ : ∃ W2, W2 = w2.alloc (.cells #[.int .i64 2, .int .i64 0, .int .i64 (b : Int)] 37) := ⟨_, rfl⟩
  obtain ⟨G2, hG2⟩ : ∃ G2, w2.heap.size = G2 := ⟨_, rfl⟩
  have rQ : W2.rowIs G2 37 3 (plF (slP b)) := by
    rw [hW2, ← hG2]
    exact World.rowIs_alloc _ _ _ _ fun i hi => by
      simp at hi
      match i, hi with | 0, _ => rfl | 1, _ => rfl | 2, _ => rfl
  have bW2 : Below W1.heap.size W1 W2 := by rw [hW2]; exact bb2.alloc bb2.size _
  have HP2 : Hid (W2.rowIs G1 37 3 (plF (rgP a)) ∧ W2.rowIs G2 37 3 (plF (slP b)) ∧ Below w.heap.size w W2) := ⟨HP1.out.1.of_block (bW2.block _ HP1.out.1.lt), rQ, HP1.out.2.trans (bW2.mono HP1.out.2.size)⟩
  have HW2 : Hid (W2 = w2.alloc (.cells #[.int .i64 2, .int .i64 0, .int .i64 (b : Int)] 37)) := hW2
  have HG2 : Hid (w2.heap.size = G2) := hG2
  clear hW2 hG2 rQ bW2 bb2 HP1
  go_upto_region 3 with fail
  rw [← HW2.out, HG2.out]
  clear HW2 HG2
  have HPC : Hid (∀ v, Below W2.heap.size W2 v → v.cell? ⟨G1, 0, none⟩ = some (.int .i64 1) ∧ v.cell? ⟨G1, 1, none⟩ = some (.int .i64 0) ∧ v.cell? ⟨G1, 2, none⟩ = some (.int .i64 (a : Int))) := fun v hv => by
    have h := HP2.out.1.of_block (hv.block _ HP2.out.1.lt)
    exact ⟨h.cell (i := 0) (by omega), h.cell (i := 1) (by omega), h.cell (i := 2) (by omega)⟩
  have HQC : Hid (∀ v, Below W2.heap.size W2 v → v.cell? ⟨G2, 0, none⟩ = some (.int .i64 2) ∧ v.cell? ⟨G2, 1, none⟩ = some (.int .i64 0) ∧ v.cell? ⟨G2, 2, none⟩ = some (.int .i64 (b : Int))) := fun v hv => by
    have h := HP2.out.2.1.of_block (hv.block _ HP2.out.2.1.lt)
    exact ⟨h.cell (i := 0) (by omega), h.cell (i := 1) (by omega), h.cell (i := 2) (by omega)⟩
  --CUT1
  refine wp_region_T (fun vs => ⟨#[.int .i64 n, .int .i64 m, .int .i64 seed, .slice aj nj cj, undef, undef, undef, undef, .bool false, .pointer (some ⟨G1, 0, none⟩), .pointer (some ⟨G2, 0, none⟩), vs 16, vs 17, undef, undef, .int .i64 n, .int .i64 (a : Int), .agg #[.int .i64 1, .int .i64 0, .int .i64 (a : Int)], .int .i64 m, .int .i64 (b : Int), .agg #[.int .i64 2, .int .i64 0, .int .i64 (b : Int)], vs 13, vs 0, vs 1, vs 2, vs 3, vs 4, vs 5, vs 6, vs 7, vs 8, vs 9, vs 10, vs 11, vs 12, vs 14, vs 15, undef, undef, undef, undef, undef, undef, undef, undef, undef, undef, undef, undef, undef, undef, undef, undef, undef, undef, undef, undef, undef, undef, undef, undef, undef, undef, undef, undef, undef, undef, undef], []⟩) (fun _ => undef) (MtR W2.heap.size a b) (fun w' => Below W2.heap.size W2 w') 20 19 (by kernel_rfl) (by kernel_rfl) (by omega) (by kernel_rfl) (by kernel_rfl) (fun i hi o ho => ?_) (Below.refl _ _).drew (fun i hi o ho => ?_) (fun i hi1 hi o ho => ?_) (fun vs v hS hR => ?_) rfl
  · match i, hi with
    | 0, _ => obtain rfl := Option.some.inj (ho.symm.trans (rfl : _ = some _)); exact fun _ _ => rfl
    | 1, _ => obtain rfl := Option.some.inj (ho.symm.trans (rfl : _ = some _)); exact fun _ _ => rfl
    | 2, _ => obtain rfl := Option.some.inj (ho.symm.trans (rfl : _ = some _)); exact fun _ _ => rfl
    | 3, _ => obtain rfl := Option.some.inj (ho.symm.trans (rfl : _ = some _)); exact fun _ _ => rfl
    | 4, _ => obtain rfl := Option.some.inj (ho.symm.trans (rfl : _ = some _)); exact fun _ _ => rfl
    | 5, _ => obtain rfl := Option.some.inj (ho.symm.trans (rfl : _ = some _)); exact fun _ _ => rfl
    | 6, _ => obtain rfl := Option.some.inj (ho.symm.trans (rfl : _ = some _)); exact fun _ _ => rfl
    | 7, _ => obtain rfl := Option.some.inj (ho.symm.trans (rfl : _ = some _)); exact fun _ _ => rfl
    | 8, _ => obtain rfl := Option.some.inj (ho.symm.trans (rfl : _ = some _)); exact fun _ _ => rfl
    | 9, _ => obtain rfl := Option.some.inj (ho.symm.trans (rfl : _ = some _)); exact fun _ _ => rfl
    | 10, _ => obtain rfl := Option.some.inj (ho.symm.trans (rfl : _ = some _)); exact fun _ _ => rfl
    | 11, _ => obtain rfl := Option.some.inj (ho.symm.trans (rfl : _ = some _)); exact fun _ _ => rfl
    | 12, _ => obtain rfl := Option.some.inj (ho.symm.trans (rfl : _ = some _)); exact fun _ _ => rfl
    | 13, _ => obtain rfl := Option.some.inj (ho.symm.trans (rfl : _ = some _)); exact fun _ _ => rfl
    | 14, _ => obtain rfl := Option.some.inj (ho.symm.trans (rfl : _ = some _)); exact fun _ _ => rfl
    | 15, _ => obtain rfl := Option.some.inj (ho.symm.trans (rfl : _ = some _)); exact fun _ _ => rfl
    | 16, _ => obtain rfl := Option.some.inj (ho.symm.trans (rfl : _ = some _)); exact fun _ _ => rfl
    | 17, _ => obtain rfl := Option.some.inj (ho.symm.trans (rfl : _ = some _)); exact fun _ _ => rfl
    | 18, _ => obtain rfl := Option.some.inj (ho.symm.trans (rfl : _ = some _)); exact fun _ _ => rfl
    | 19, _ => obtain rfl := Option.some.inj (ho.symm.trans (rfl : _ = some _)); exact fun _ _ => rfl
    | n + 20, h => exact absurd h (by omega)
  · match i, hi with
    | 0, _ =>
      obtain rfl := Option.some.inj (ho.symm.trans (rfl : _ = some _))
      intro L vs v hLi hv0 hd hS hR K hK
      go_simp
      refine (op_bare 2 v).mono ?_
      rintro e v' ⟨rfl, hb⟩
      have hE := hK.out (.agg #[.int .i64 2, .slice none 0 0, .slice none 0 0]) (v') (hS.trans (hb.mono hS.size)) (MtR.keep (i := 0) (KpM.below hb) (fun _ x f h => h.of_block (hb.block _ h.lt)) (fun e => absurd e (by omega)) hR) (upV_same _ _ _)
      simp only [Act.put, List.setIfInBounds_toArray, List.set_cons_zero, List.set_cons_succ] at hE
      exact hE
    | 1, _ =>
      obtain rfl := Option.some.inj (ho.symm.trans (rfl : _ = some _))
      intro L vs v hLi hv0 hd hS hR K hK
      obtain ⟨x0, x1, x2⟩ := HPC.out v hS
      go_simp
      have hE := hK.out (.agg #[.int .i64 1, .int .i64 0, .int .i64 (a : Int)]) (v) hS (MtR.keep (i := 1) (KpM.below (Below.refl v.heap.size v)) (fun _ x f h => h.of_block ((Below.refl v.heap.size v).block _ h.lt)) (fun e => absurd e (by omega)) hR) (upV_same _ _ _)
      simp only [Act.put, List.setIfInBounds_toArray, List.set_cons_zero, List.set_cons_succ] at hE
      exact hE
    | 2, _ =>
      obtain rfl := Option.some.inj (ho.symm.trans (rfl : _ = some _))
      intro L vs v hLi hv0 hd hS hR K hK
      go_simp
      refine (reg_any 5 v).mono ?_
      rintro e v' ⟨rfl, hb⟩
      have hE := hK.out (.agg #[.int .i64 1, .int .i64 0, .int .i64 5]) (v') (hS.trans (hb.mono hS.size)) (MtR.keep (i := 2) (KpM.below hb) (fun _ x f h => h.of_block (hb.block _ h.lt)) (fun e => absurd e (by omega)) hR) (upV_same _ _ _)
      simp only [Act.put, List.setIfInBounds_toArray, List.set_cons_zero, List.set_cons_succ] at hE
      exact hE
    | 3, _ =>
      obtain rfl := Option.some.inj (ho.symm.trans (rfl : _ = some _))
      intro L vs v hLi hv0 hd hS hR K hK
      obtain ⟨x0, x1, x2⟩ := HPC.out v hS
      go_simp
      have hE := hK.out (.agg #[.int .i64 1, .int .i64 0, .int .i64 (a : Int)]) (v) hS (MtR.keep (i := 3) (KpM.below (Below.refl v.heap.size v)) (fun _ x f h => h.of_block ((Below.refl v.heap.size v).block _ h.lt)) (fun e => absurd e (by omega)) hR) (upV_same _ _ _)
      simp only [Act.put, List.setIfInBounds_toArray, List.set_cons_zero, List.set_cons_succ] at hE
      exact hE
    | 4, _ =>
      obtain rfl := Option.some.inj (ho.symm.trans (rfl : _ = some _))
      intro L vs v hLi hv0 hd hS hR K hK
      obtain ⟨x0, x1, x2⟩ := HQC.out v hS
      go_simp
      have hE := hK.out (.agg #[.int .i64 2, .int .i64 0, .int .i64 (b : Int)]) (v) hS (MtR.keep (i := 4) (KpM.below (Below.refl v.heap.size v)) (fun _ x f h => h.of_block ((Below.refl v.heap.size v).block _ h.lt)) (fun e => absurd e (by omega)) hR) (upV_same _ _ _)
      simp only [Act.put, List.setIfInBounds_toArray, List.set_cons_zero, List.set_cons_succ] at hE
      exact hE
    | 5, _ =>
      obtain rfl := Option.some.inj (ho.symm.trans (rfl : _ = some _))
      intro L vs v hLi hv0 hd hS hR K hK
      have r3 := hR 3 (by omega) (hd 3 (by kernel_rfl))
      have r4 := hR 4 (by omega) (hd 4 (by kernel_rfl))
      have e3 : vs 3 = _ := r3
      have e4 : vs 4 = _ := r4
      go_simp
      have hE := hK.out (.agg #[.int .i64 1, .int .i64 0, .int .i64 (a : Int), .int .i64 2, .int .i64 0, .int .i64 (b : Int)]) (v) hS (MtR.keep (i := 5) (KpM.below (Below.refl v.heap.size v)) (fun _ x f h => h.of_block ((Below.refl v.heap.size v).block _ h.lt)) (fun e => absurd e (by omega)) hR) (upV_same _ _ _)
      simp only [Act.put, List.setIfInBounds_toArray, List.set_cons_zero, List.set_cons_succ, e3, e4] at hE
      exact hE
    | 6, _ =>
      obtain rfl := Option.some.inj (ho.symm.trans (rfl : _ = some _))
      intro L vs v hLi hv0 hd hS hR K hK
      obtain ⟨x0, x1, x2⟩ := HQC.out v hS
      go_simp
      have hE := hK.out (.agg #[.int .i64 2, .int .i64 0, .int .i64 (b : Int)]) (v) hS (MtR.keep (i := 6) (KpM.below (Below.refl v.heap.size v)) (fun _ x f h => h.of_block ((Below.refl v.heap.size v).block _ h.lt)) (fun e => absurd e (by omega)) hR) (upV_same _ _ _)
      simp only [Act.put, List.setIfInBounds_toArray, List.set_cons_zero, List.set_cons_succ] at hE
      exact hE
    | 7, _ =>
      obtain rfl := Option.some.inj (ho.symm.trans (rfl : _ = some _))
      intro L vs v hLi hv0 hd hS hR K hK
      go_simp
      refine (reg_any 5 v).mono ?_
      rintro e v' ⟨rfl, hb⟩
      have hE := hK.out (.agg #[.int .i64 1, .int .i64 0, .int .i64 5]) (v') (hS.trans (hb.mono hS.size)) (MtR.keep (i := 7) (KpM.below hb) (fun _ x f h => h.of_block (hb.block _ h.lt)) (fun e => absurd e (by omega)) hR) (upV_same _ _ _)
      simp only [Act.put, List.setIfInBounds_toArray, List.set_cons_zero, List.set_cons_succ] at hE
      exact hE
    | 8, _ =>
      obtain rfl := Option.some.inj (ho.symm.trans (rfl : _ = some _))
      intro L vs v hLi hv0 hd hS hR K hK
      have r6 := hR 6 (by omega) (hd 6 (by kernel_rfl))
      have r7 := hR 7 (by omega) (hd 7 (by kernel_rfl))
      have e6 : vs 6 = _ := r6
      have e7 : vs 7 = _ := r7
      go_simp
      have hE := hK.out (.agg #[.int .i64 2, .int .i64 0, .int .i64 (b : Int), .int .i64 1, .int .i64 0, .int .i64 5]) (v) hS (MtR.keep (i := 8) (KpM.below (Below.refl v.heap.size v)) (fun _ x f h => h.of_block ((Below.refl v.heap.size v).block _ h.lt)) (fun e => absurd e (by omega)) hR) (upV_same _ _ _)
      simp only [Act.put, List.setIfInBounds_toArray, List.set_cons_zero, List.set_cons_succ, e6, e7] at hE
      exact hE
    | 9, _ =>
      obtain rfl := Option.some.inj (ho.symm.trans (rfl : _ = some _))
      intro L vs v hLi hv0 hd hS hR K hK
      have r5 := hR 5 (by omega) (hd 5 (by kernel_rfl))
      have r8 := hR 8 (by omega) (hd 8 (by kernel_rfl))
      have e5 : vs 5 = _ := r5
      have e8 : vs 8 = _ := r8
      have hnew : SlOf (v.alloc (.cells #[.int .i64 1, .int .i64 0, .int .i64 (a : Int), .int .i64 2, .int .i64 0, .int .i64 (b : Int), .int .i64 2, .int .i64 0, .int .i64 (b : Int), .int .i64 1, .int .i64 0, .int .i64 5] 48)) 6 RMv (.slice (some ⟨v.heap.size, 0, none⟩) 2 2) [⟨rgP a, slP b⟩, ⟨slP b, rgP 5⟩] := by
        refine sl_newL [[.int .i64 1, .int .i64 0, .int .i64 (a : Int), .int .i64 2, .int .i64 0, .int .i64 (b : Int)], [.int .i64 2, .int .i64 0, .int .i64 (b : Int), .int .i64 1, .int .i64 0, .int .i64 5]] _ rfl (by simp) rfl (by simp) (fun i h h' => ?_) (by decide)
        match i, h with | 0, _ => rfl | 1, _ => rfl
      go_simp
      have hE := hK.out (.slice (some ⟨v.heap.size, 0, none⟩) 2 2) (v.alloc (.cells #[.int .i64 1, .int .i64 0, .int .i64 (a : Int), .int .i64 2, .int .i64 0, .int .i64 (b : Int), .int .i64 2, .int .i64 0, .int .i64 (b : Int), .int .i64 1, .int .i64 0, .int .i64 5] 48)) (hS.alloc hS.size _) (MtR.keep (i := 9) (KpM.below ((Below.refl v.heap.size v).alloc (Nat.le_refl _) _)) (fun _ x f h => h.of_block (((Below.refl v.heap.size v).alloc (Nat.le_refl _) _).block _ h.lt)) (fun e => absurd e (by omega)) hR) (⟨v.heap.size, upV_same _ _ _, hnew⟩)
      simp only [Act.put, List.setIfInBounds_toArray, List.set_cons_zero, List.set_cons_succ, e5, e8] at hE
      exact hE
    | 10, _ =>
      obtain rfl := Option.some.inj (ho.symm.trans (rfl : _ = some _))
      intro L vs v hLi hv0 hd hS hR K hK
      have r9 := hR 9 (by omega) (hd 9 (by kernel_rfl))
      obtain ⟨x, e9, s⟩ := r9
      go_simp
      have hE := hK.out (.agg #[.int .i64 0, .int .i64 1, .slice (some ⟨x, 0, none⟩) 2 2]) (v) hS (MtR.keep (i := 10) (KpM.below (Below.refl v.heap.size v)) (fun _ x f h => h.of_block ((Below.refl v.heap.size v).block _ h.lt)) (fun e => absurd e (by omega)) hR) (⟨x, upV_same _ _ _, s⟩)
      simp only [Act.put, List.setIfInBounds_toArray, List.set_cons_zero, List.set_cons_succ, e9] at hE
      exact hE
    | 11, _ =>
      obtain rfl := Option.some.inj (ho.symm.trans (rfl : _ = some _))
      intro L vs v hLi hv0 hd hS hR K hK
      have r10 := hR 10 (by omega) (hd 10 (by kernel_rfl))
      obtain ⟨x, e10, s⟩ := r10
      have hnew : SlOf (v.alloc (.cells #[.int .i64 0, .int .i64 1, .slice (some ⟨x, 0, none⟩) 2 2] 51)) 3 (REd (v.alloc (.cells #[.int .i64 0, .int .i64 1, .slice (some ⟨x, 0, none⟩) 2 2] 51))) (.slice (some ⟨v.heap.size, 0, none⟩) 1 1) (mtE a b) := by
        refine sl_newL [[.int .i64 0, .int .i64 1, .slice (some ⟨x, 0, none⟩) 2 2]] (mtE a b) rfl (by simp) rfl (by simp) (fun i h h' => ?_) (by decide)
        match i, h with | 0, _ => exact ⟨_, rfl, s.below ((Below.refl v.heap.size v).alloc (Nat.le_refl _) _) fun _ _ h => h⟩
      go_simp
      have hE := hK.out (.slice (some ⟨v.heap.size, 0, none⟩) 1 1) (v.alloc (.cells #[.int .i64 0, .int .i64 1, .slice (some ⟨x, 0, none⟩) 2 2] 51)) (hS.alloc hS.size _) (MtR.keep (i := 11) (KpM.below ((Below.refl v.heap.size v).alloc (Nat.le_refl _) _)) (fun _ x f h => h.of_block (((Below.refl v.heap.size v).alloc (Nat.le_refl _) _).block _ h.lt)) (fun e => absurd e (by omega)) hR) (⟨v.heap.size, upV_same _ _ _, hnew⟩)
      simp only [Act.put, List.setIfInBounds_toArray, List.set_cons_zero, List.set_cons_succ, e10] at hE
      exact hE
    | 12, _ =>
      obtain rfl := Option.some.inj (ho.symm.trans (rfl : _ = some _))
      intro L vs v hLi hv0 hd hS hR K hK
      have r0 := hR 0 (by omega) (hd 0 (by kernel_rfl))
      have r1 := hR 1 (by omega) (hd 1 (by kernel_rfl))
      have r2 := hR 2 (by omega) (hd 2 (by kernel_rfl))
      have r11 := hR 11 (by omega) (hd 11 (by kernel_rfl))
      have e0 : vs 0 = _ := r0
      have e1 : vs 1 = _ := r1
      have e2 : vs 2 = _ := r2
      obtain ⟨be, e11, s⟩ := r11
      have HPR : Calls Try.prog 12 #[.agg #[.int .i64 2, .slice none 0 0, .slice none 0 0], .agg #[.int .i64 1, .int .i64 0, .int .i64 (a : Int)], .agg #[.int .i64 1, .int .i64 0, .int .i64 5], .slice (some ⟨be, 0, none⟩) 1 1] v _ := mpair_any 2 none none (some ⟨be, 0, none⟩) 0 0 0 0 1 1 [] [] (rgP a) (rgP 5) v (sl_none _ _ _) (sl_none _ _ _)
      go_simp
      refine HPR.mono ?_
      rintro e v' ⟨bv, bb, b1, b2, b3, b4, rfl, hp⟩
      have hb := hp.low
      have hal := hp.all
      have hct : Ct (mtE a b) (rgP a) (rgP 5) bv bb b1 b2 b3 b4 be v' := by
        obtain ⟨B', _, hp3, _⟩ := hp.pls
        exact ⟨hal.1, hal.2.1, ⟨hp3.r1, hp3.r2, hp3.r3, hp3.r4, Nat.zero_le _, Nat.zero_le _, Nat.zero_le _, Nat.zero_le _, hp3.n34⟩, s.below hb (REd.below hb)⟩
      have hE := hK.out (.tuple #[.agg #[.slice (some ⟨bv, 0, none⟩) 1 1, .slice (some ⟨bb, 0, none⟩) 1 1], .agg #[.slice (some ⟨b1, 0, none⟩) 1 1, .slice (some ⟨be, 0, none⟩) 1 1, .int .i64 3]]) (v') (hS.trans (hb.mono hS.size)) (MtR.keep (i := 12) (KpM.below hb) (fun _ x f h => h.of_block (hb.block _ h.lt)) (fun e => absurd e (by omega)) hR) (⟨bv, bb, b1, b2, b3, b4, be, upV_same _ _ _, hct⟩)
      simp only [Act.put, List.setIfInBounds_toArray, List.set_cons_zero, List.set_cons_succ, e0, e1, e2, e11] at hE
      exact hE
    | 13, _ =>
      obtain rfl := Option.some.inj (ho.symm.trans (rfl : _ = some _))
      intro L vs v hLi hv0 hd hS hR K hK
      have r12 := hR 12 (by omega) (hd 12 (by kernel_rfl))
      obtain ⟨bv, bb, b1, b2, b3, b4, be, e12, s⟩ := r12
      go_simp
      have hE := hK.out (.tuple #[.agg #[.slice (some ⟨bv, 0, none⟩) 1 1, .slice (some ⟨bb, 0, none⟩) 1 1], .agg #[.slice (some ⟨b1, 0, none⟩) 1 1, .slice (some ⟨be, 0, none⟩) 1 1, .int .i64 3]]) (v) hS (MtR.keep (i := 13) (KpM.below (Below.refl v.heap.size v)) (fun _ x f h => h.of_block ((Below.refl v.heap.size v).block _ h.lt)) (fun e => absurd e (by omega)) hR) (⟨bv, bb, b1, b2, b3, b4, be, upV_same _ _ _, s⟩)
      simp only [Act.put, List.setIfInBounds_toArray, List.set_cons_zero, List.set_cons_succ, e12] at hE
      exact hE
    | 14, _ =>
      obtain rfl := Option.some.inj (ho.symm.trans (rfl : _ = some _))
      intro L vs v hLi hv0 hd hS hR K hK
      have r13 := hR 13 (by omega) (hd 13 (by kernel_rfl))
      obtain ⟨bv, bb, b1, b2, b3, b4, be, e13, s⟩ := r13
      go_simp
      have hE := hK.out (.agg #[.slice (some ⟨bv, 0, none⟩) 1 1, .slice (some ⟨bb, 0, none⟩) 1 1]) (v) hS (MtR.keep (i := 14) (KpM.below (Below.refl v.heap.size v)) (fun _ x f h => h.of_block ((Below.refl v.heap.size v).block _ h.lt)) (fun e => absurd e (by omega)) hR) (⟨bv, bb, b1, b2, b3, b4, be, upV_same _ _ _, s⟩)
      simp only [Act.put, List.setIfInBounds_toArray, List.set_cons_zero, List.set_cons_succ, e13] at hE
      exact hE
    | 15, _ =>
      obtain rfl := Option.some.inj (ho.symm.trans (rfl : _ = some _))
      intro L vs v hLi hv0 hd hS hR K hK
      have r13 := hR 13 (by omega) (hd 13 (by kernel_rfl))
      obtain ⟨bv, bb, b1, b2, b3, b4, be, e13, s⟩ := r13
      go_simp
      have hE := hK.out (.agg #[.slice (some ⟨b1, 0, none⟩) 1 1, .slice (some ⟨be, 0, none⟩) 1 1, .int .i64 3]) (v) hS (MtR.keep (i := 15) (KpM.below (Below.refl v.heap.size v)) (fun _ x f h => h.of_block ((Below.refl v.heap.size v).block _ h.lt)) (fun e => absurd e (by omega)) hR) (⟨bv, bb, b1, b2, b3, b4, be, upV_same _ _ _, s⟩)
      simp only [Act.put, List.setIfInBounds_toArray, List.set_cons_zero, List.set_cons_succ, e13] at hE
      exact hE
    | 16, _ =>
      obtain rfl := Option.some.inj (ho.symm.trans (rfl : _ = some _))
      intro L vs v hLi hv0 hd hS hR K hK
      go_simp
      have hE := hK.out (.pointer (some ⟨v.heap.size, 0, none⟩)) (v.alloc (.cells #[.slice none 0 0, .slice none 0 0] 25)) (hS.alloc hS.size _) (MtR.keep (i := 16) (KpM.below ((Below.refl v.heap.size v).alloc (Nat.le_refl _) _)) (fun _ x f h => h.of_block (((Below.refl v.heap.size v).alloc (Nat.le_refl _) _).block _ h.lt)) (fun _ => hv0 16 (by omega) hLi) hR) (⟨v.heap.size, fun _ => .slice none 0 0, upV_same _ _ _, hS.size, (World.rowIs_alloc _ _ _ _ fun i hi => by
        simp at hi
        match i, hi with | 0, _ => rfl | 1, _ => rfl), fun _ _ => ⟨_, _, _, rfl⟩⟩)
      simp only [Act.put, List.setIfInBounds_toArray, List.set_cons_zero, List.set_cons_succ] at hE
      exact hE
    | 17, _ =>
      obtain rfl := Option.some.inj (ho.symm.trans (rfl : _ = some _))
      intro L vs v hLi hv0 hd hS hR K hK
      go_simp
      have hE := hK.out (.pointer (some ⟨v.heap.size, 0, none⟩)) (v.alloc (.cells #[.slice none 0 0, .slice none 0 0, .int .i64 0] 32)) (hS.alloc hS.size _) (MtR.keep (i := 17) (KpM.below ((Below.refl v.heap.size v).alloc (Nat.le_refl _) _)) (fun _ x f h => h.of_block (((Below.refl v.heap.size v).alloc (Nat.le_refl _) _).block _ h.lt)) (fun e => absurd e (by omega)) hR) (⟨v.heap.size, upV_same _ _ _, hS.size, World.rowIs_alloc _ _ _ _ fun i hi => by
        simp at hi
        match i, hi with | 0, _ => rfl | 1, _ => rfl | 2, _ => rfl⟩)
      simp only [Act.put, List.setIfInBounds_toArray, List.set_cons_zero, List.set_cons_succ] at hE
      exact hE
    | 18, _ =>
      obtain rfl := Option.some.inj (ho.symm.trans (rfl : _ = some _))
      intro L vs v hLi hv0 hd hS hR K hK
      have r14 := hR 14 (by omega) (hd 14 (by kernel_rfl))
      have r16 := hR 16 (by omega) (hd 16 (by kernel_rfl))
      obtain ⟨bv, bb, b1, b2, b3, b4, be, e14, s⟩ := r14
      obtain ⟨x, f, e16, lx, rx, hf⟩ := r16
      have x0 := rx.cell (i := 0) (by omega)
      have x1 := rx.cell (i := 1) (by omega)
      have z0 := rx.frozen 0
      have z1 := rx.frozen 1
      have lf := rx.lt
      have hkk : ∀ p, p ≠ x → ((v.setCell ⟨x, 0, none⟩ (.slice (some ⟨bv, 0, none⟩) 1 1)).setCell ⟨x, 1, none⟩ (.slice (some ⟨bb, 0, none⟩) 1 1)).heap[p]? = v.heap[p]? := fun p hp => (Below.heap_setCell _ _ _ _ (by show p ≠ x; exact hp)).trans (Below.heap_setCell _ _ _ _ (by show p ≠ x; exact hp))
      have hr : ((v.setCell ⟨x, 0, none⟩ (.slice (some ⟨bv, 0, none⟩) 1 1)).setCell ⟨x, 1, none⟩ (.slice (some ⟨bb, 0, none⟩) 1 1)).rowIs x 25 2 (fun q => if q = 0 then .slice (some ⟨bv, 0, none⟩) 1 1 else .slice (some ⟨bb, 0, none⟩) 1 1) := ((rx.set 0 _).set 1 _).congr fun i hi => by
        match i, hi with | 0, _ => rfl | 1, _ => rfl
      have hkp : KpM W2.heap.size a b v ((v.setCell ⟨x, 0, none⟩ (.slice (some ⟨bv, 0, none⟩) 1 1)).setCell ⟨x, 1, none⟩ (.slice (some ⟨bb, 0, none⟩) 1 1)) := ⟨fun y h => sl_off h hkk (sl_apart h hintM rx hf) fun _ _ h => h, fun y h => ed_offF h rx hf hkk, fun _ _ _ _ _ _ _ h => h.offF rx hf hkk, fun y g h hg => by
        by_cases e : y = x
        · subst e
          exact ⟨_, hr, fun i hi => by
            match i, hi with | 0, _ => exact ⟨_, _, _, rfl⟩ | 1, _ => exact ⟨_, _, _, rfl⟩⟩
        · exact ⟨g, h.of_block (hkk y e), hg⟩, fun y h => h.of_block (hkk y (rows_ne h rx (by decide)))⟩
      have hct := s.offF rx hf hkk
      go_simp
      have hE := hK.out (undef) ((v.setCell ⟨x, 0, none⟩ (.slice (some ⟨bv, 0, none⟩) 1 1)).setCell ⟨x, 1, none⟩ (.slice (some ⟨bb, 0, none⟩) 1 1)) ((hS.setCell lx _).setCell lx _) (MtR.keep (i := 18) hkp (fun h => absurd rfl h) (fun e => absurd e (by omega)) hR) (⟨x, bv, bb, b1, b2, b3, b4, be, (upV_ne vs undef (by omega)).trans e16, lx, hr, hct⟩)
      simp only [Act.put, e14, e16] at hE
      exact hE
    | n + 19, h => exact absurd h (by omega)
  · match i, hi1, hi with
    | 19, _, _ =>
      obtain rfl := Option.some.inj (ho.symm.trans (rfl : _ = some _))
      intro vs v hS hall hprev K hK
      have hR := hall rfl
      obtain ⟨cv, cb, c1, c2, c3, c4, ce, e15, s15⟩ := hR 15 (by omega)
      obtain ⟨y, e17, ly, ry⟩ := hR 17 (by omega)
      obtain ⟨x, bv, bb, b1, b2, b3, b4, be, e16, lx, rx, s18⟩ := hR 18 (by omega)
      have x0 := ry.cell (i := 0) (by omega)
      have x1 := ry.cell (i := 1) (by omega)
      have x2 := ry.cell (i := 2) (by omega)
      have z0 := ry.frozen 0
      have z1 := ry.frozen 1
      have z2 := ry.frozen 2
      have lf := ry.lt
      have hkk : ∀ p, p ≠ y → (((v.setCell ⟨y, 0, none⟩ (.slice (some ⟨c1, 0, none⟩) 1 1)).setCell ⟨y, 1, none⟩ (.slice (some ⟨ce, 0, none⟩) 1 1)).setCell ⟨y, 2, none⟩ (.int .i64 3)).heap[p]? = v.heap[p]? := fun p hp => ((Below.heap_setCell _ _ _ _ (by show p ≠ y; exact hp)).trans (Below.heap_setCell _ _ _ _ (by show p ≠ y; exact hp))).trans (Below.heap_setCell _ _ _ _ (by show p ≠ y; exact hp))
      have hr : (((v.setCell ⟨y, 0, none⟩ (.slice (some ⟨c1, 0, none⟩) 1 1)).setCell ⟨y, 1, none⟩ (.slice (some ⟨ce, 0, none⟩) 1 1)).setCell ⟨y, 2, none⟩ (.int .i64 3)).rowIs y 32 3 (fun q => if q = 0 then .slice (some ⟨c1, 0, none⟩) 1 1 else if q = 1 then .slice (some ⟨ce, 0, none⟩) 1 1 else .int .i64 3) := (((ry.set 0 _).set 1 _).set 2 _).congr fun i hi => by
        match i, hi with | 0, _ => rfl | 1, _ => rfl | 2, _ => rfl
      have hfin : MtR W2.heap.size a b 19 (upV vs 19 undef) (((v.setCell ⟨y, 0, none⟩ (.slice (some ⟨c1, 0, none⟩) 1 1)).setCell ⟨y, 1, none⟩ (.slice (some ⟨ce, 0, none⟩) 1 1)).setCell ⟨y, 2, none⟩ (.int .i64 3)) := ⟨x, y, bv, bb, b1, b2, b3, b4, be, cv, cb, c1, c2, c3, c4, ce, (upV_ne vs undef (by omega)).trans e16, (upV_ne vs undef (by omega)).trans e17, rx.of_block (hkk x (rows_ne rx ry (by decide))), hr, s18.offO ry hkk, s15.offO ry hkk⟩
      clear hR hall hprev hr s15 s18 rx ry
      go_simp
      have hE := hK.out undef _ (((hS.setCell ly _).setCell ly _).setCell ly _) hfin
      simp only [Act.put, e15, e16, e17] at hE
      exact hE
    | n + 20, _, h => exact absurd h (by omega)
    | 0, h, _ => exact absurd h (by omega)
    | 1, h, _ => exact absurd h (by omega)
    | 2, h, _ => exact absurd h (by omega)
    | 3, h, _ => exact absurd h (by omega)
    | 4, h, _ => exact absurd h (by omega)
    | 5, h, _ => exact absurd h (by omega)
    | 6, h, _ => exact absurd h (by omega)
    | 7, h, _ => exact absurd h (by omega)
    | 8, h, _ => exact absurd h (by omega)
    | 9, h, _ => exact absurd h (by omega)
    | 10, h, _ => exact absurd h (by omega)
    | 11, h, _ => exact absurd h (by omega)
    | 12, h, _ => exact absurd h (by omega)
    | 13, h, _ => exact absurd h (by omega)
    | 14, h, _ => exact absurd h (by omega)
    | 15, h, _ => exact absurd h (by omega)
    | 16, h, _ => exact absurd h (by omega)
    | 17, h, _ => exact absurd h (by omega)
    | 18, h, _ => exact absurd h (by omega)
  · obtain ⟨x, y, bv, bb, b1, b2, b3, b4, be, cv, cb, c1, c2, c3, c4, ce, e16, e17, rx, ry, s1, s2⟩ := hR
    have x0 := rx.cell (i := 0) (by omega)
    have x1 := rx.cell (i := 1) (by omega)
    have y0 := ry.cell (i := 0) (by omega)
    have y1 := ry.cell (i := 1) (by omega)
    have y2 := ry.cell (i := 2) (by omega)
    have x0 : v.cell? ⟨x, 0, none⟩ = some (.slice (some ⟨bv, 0, none⟩) 1 1) := x0
    have x1 : v.cell? ⟨x, 1, none⟩ = some (.slice (some ⟨bb, 0, none⟩) 1 1) := x1
    have y0 : v.cell? ⟨y, 0, none⟩ = some (.slice (some ⟨c1, 0, none⟩) 1 1) := y0
    have y1 : v.cell? ⟨y, 1, none⟩ = some (.slice (some ⟨ce, 0, none⟩) 1 1) := y1
    have y2 : v.cell? ⟨y, 2, none⟩ = some (.int .i64 3) := y2
    have HV : Hid (Below w.heap.size w v) := HP2.out.2.2.trans (hS.mono HP2.out.2.2.size)
    have HSF : Hid (∀ w', Below v.heap.size v w' → (fun w' => w'.cell? ⟨x, 0, none⟩ = some (.slice (some ⟨bv, 0, none⟩) 1 1) ∧ w'.cell? ⟨x, 1, none⟩ = some (.slice (some ⟨bb, 0, none⟩) 1 1) ∧ w'.cell? ⟨y, 0, none⟩ = some (.slice (some ⟨c1, 0, none⟩) 1 1) ∧ w'.cell? ⟨y, 1, none⟩ = some (.slice (some ⟨ce, 0, none⟩) 1 1) ∧ w'.cell? ⟨y, 2, none⟩ = some (.int .i64 3)) w') := fun w' hh => ⟨(hh.cell (block_lt x0)).trans x0, (hh.cell (block_lt x1)).trans x1, (hh.cell (block_lt y0)).trans y0, (hh.cell (block_lt y1)).trans y1, (hh.cell (block_lt y2)).trans y2⟩
    have HCT : Hid (SlOf v 1 RInt (.slice (some ⟨bv, 0, none⟩) 1 1) [0] ∧ SlOf v 3 (RBlk v) (.slice (some ⟨bb, 0, none⟩) 1 1) [mjBlk 2 [] []] ∧ SlOf v 1 (RPss v) (.slice (some ⟨c1, 0, none⟩) 1 1) (mjP (rgP a) (rgP 5)) ∧ SlOf v 3 (REd v) (.slice (some ⟨ce, 0, none⟩) 1 1) (mtE a b)) := ⟨s1.fv, s1.fb, pl3_sl s2.pl, s2.ed⟩
    obtain ⟨q, hq⟩ : ∃ q, min nj 64 = q := ⟨_, rfl⟩
    have hq1 : q ≤ nj := by omega
    have hq2 : q ≤ 64 := by omega
    have hqc : q ≤ cj := by have := HJ0.out.2.2; omega
    have HQ2 : Hid (min nj 64 = q) := hq
    have HJV : Hid (SlOf v 1 RInt (.slice aj q cj) (jl.take q) ∧ (jl.take q).length = q) := by
      have hl : (jl.take q).length = q := by rw [List.length_take, HJ0.out.2.1]; omega
      refine ⟨?_, hl⟩
      have h := sl_take (HJ0.out.1.below HV.out fun _ _ h => h) q
      rw [hl] at h
      exact h
    clear hS rx ry s1 s2 x0 x1 y0 y1 y2 HPC HQC HP2 hq
    go_upto_region 4 with fail
    generalize vs = us at *
    --CUT2
    refine wp_region_X (fun w' => w'.cell? ⟨x, 0, none⟩ = some (.slice (some ⟨bv, 0, none⟩) 1 1) ∧ w'.cell? ⟨x, 1, none⟩ = some (.slice (some ⟨bb, 0, none⟩) 1 1) ∧ w'.cell? ⟨y, 0, none⟩ = some (.slice (some ⟨c1, 0, none⟩) 1 1) ∧ w'.cell? ⟨y, 1, none⟩ = some (.slice (some ⟨ce, 0, none⟩) 1 1) ∧ w'.cell? ⟨y, 2, none⟩ = some (.int .i64 3)) 99 (by kernel_rfl) (HSF.out _ (Below.refl _ _).drew) (fun hHeld => ?_)
    refine wpXt (v := ?_) 0 rfl (by kernel_rfl) (fun _ _ _ h => h) (by rfl) ?_ hHeld ?_
    rotate_left
    · intro w' hSw
      go_simp <;> with_reducible rfl
    try simp only [Act.put, List.setIfInBounds_toArray, List.set_cons_zero, List.set_cons_succ]
    refine wpXt (v := ?_) 2 rfl (by kernel_rfl) (fun _ _ _ h => h) (by rfl) ?_ hHeld ?_
    rotate_left
    · intro w' hSw
      go_simp <;> with_reducible rfl
    try simp only [Act.put, List.setIfInBounds_toArray, List.set_cons_zero, List.set_cons_succ]
    refine wpXt (v := ?_) 3 rfl (by kernel_rfl) (fun _ _ _ h => h) (by rfl) ?_ hHeld ?_
    rotate_left
    · intro w' hSw
      go_simp <;> with_reducible rfl
    try simp only [Act.put, List.setIfInBounds_toArray, List.set_cons_zero, List.set_cons_succ]
    refine wpXt (v := ?_) 4 rfl (by kernel_rfl) (fun _ _ _ h => h) (by rfl) ?_ hHeld ?_
    rotate_left
    · intro w' hSw
      go_simp <;> with_reducible rfl
    try simp only [Act.put, List.setIfInBounds_toArray, List.set_cons_zero, List.set_cons_succ]
    refine wpXt (v := ?_) 5 rfl (by kernel_rfl) (fun _ _ _ h => h) (by rfl) ?_ hHeld ?_
    rotate_left
    · intro w' hSw
      go_simp <;> with_reducible rfl
    try simp only [Act.put, List.setIfInBounds_toArray, List.set_cons_zero, List.set_cons_succ]
    refine wpXt (v := ?_) 6 rfl (by kernel_rfl) (fun _ _ _ h => h) (by rfl) ?_ hHeld ?_
    rotate_left
    · intro w' hSw
      go_simp <;> with_reducible rfl
    try simp only [Act.put, List.setIfInBounds_toArray, List.set_cons_zero, List.set_cons_succ]
    --CUT3
    refine wpXt (v := ?_) 7 rfl (by kernel_rfl) (fun _ _ _ h => h) (by rfl) ?_ hHeld ?_
    rotate_left
    · intro w' hSw
      go_simp <;> with_reducible rfl
    try simp only [Act.put, List.setIfInBounds_toArray, List.set_cons_zero, List.set_cons_succ]
    rw [show (min (nj : Int) 64) = (q : Int) from by have := HQ2.out; omega]
    have hqI : (q : Int) ≤ (cj : Int) := by omega
    have wq : IntKind.i64.wrap (q : Int) = (q : Int) := by rw [IntKind.wrap_i64]; omega
    --CUT4
    refine wpXt (v := ?_) 8 rfl (by kernel_rfl) (fun _ _ _ h => h) (by rfl) ?_ hHeld ?_
    rotate_left
    · intro w' hSw
      go_simp <;> with_reducible rfl
    try simp only [Act.put, List.setIfInBounds_toArray, List.set_cons_zero, List.set_cons_succ]
    --CUT6
    refine wpXs 1 rfl (by kernel_rfl) (fun K hK => ?_)
    go_simp
    refine (big_any _).mono ?_
    rintro e w6 ⟨rfl, b6⟩
    have hb6 : Below v.heap.size v w6 := ((Below.refl _ _).drew).trans b6
    have HB6 : Hid (Below v.heap.size v w6) := hb6
    obtain ⟨R, hR⟩ : ∃ R, mrunM (mjF []).blocks (mjP (rgP a) (rgP 5)) (mtE a b) seed (jl.take q) (fillM (jl.take q) 10 10 3) 9 = R := ⟨_, rfl⟩
    have hrd := mt_R seed (jl.take q) a b ha4 hb3
    rw [hR] at hrd
    obtain ⟨hl3, hl2, hr2⟩ := reads_three hrd
    have HRU := mrun_any (mjF []) 1 1 9 3 10 10 1 1 q 1 1 1 1 cj seed (mjP (rgP a) (rgP 5)) (mtE a b) (jl.take q) (some ⟨bv, 0, none⟩) (some ⟨bb, 0, none⟩) (some ⟨c1, 0, none⟩) (some ⟨ce, 0, none⟩) aj (mt_E a b ha4 hb3) rfl rfl (by omega) hq2 w6 (HCT.out.1.below hb6 fun _ _ h => h) (HCT.out.2.1.below hb6 (RBlk.below hb6)) (HCT.out.2.2.1.below hb6 (RPss.below hb6)) rfl (HCT.out.2.2.2.below hb6 (REd.below hb6)) rfl (HJV.out.1.below hb6 fun _ _ h => h) HJV.out.2
    rw [hR] at HRU
    have HRUN : Calls Try.prog 14 #[.agg #[.slice (some ⟨bv, 0, none⟩) 1 1, .slice (some ⟨bb, 0, none⟩) 1 1], .agg #[.int .i64 10, .int .i64 10], .agg #[.slice (some ⟨c1, 0, none⟩) 1 1, .slice (some ⟨ce, 0, none⟩) 1 1, .int .i64 3], .int .i64 seed, .slice aj q cj, .int .i64 9] w6 _ := HRU
    have HRD : Hid (R.evs.length = 3 ∧ ∃ h2 : 2 < R.evs.length, R.evs[2].read = [mixL 7 [seed, 1, 0]]) := ⟨hl3, hl2, hr2⟩
    clear hR hrd hl3 hl2 hr2 HRU b6 hb6
    refine hK.out _ _ (HSF.out _ HB6.out) (fun hHeld => ?_)
    clear hK K
    try simp only [Act.put, List.setIfInBounds_toArray, List.set_cons_zero, List.set_cons_succ]
    --CUT7
    refine wpXs 9 rfl (by kernel_rfl) (fun K hK => ?_)
    go_simp
    refine HRUN.mono ?_
    clear HRUN
    rintro e wf ⟨ae, ne, cf, hne, hnc, rfl, hse, hbf⟩
    have e3 : ne = 3 := hne.trans HRD.out.1
    subst e3
    obtain ⟨h2, hrd⟩ := HRD.out.2
    obtain ⟨bx, ox, cse, rfl, _, ⟨vr, rfl, hvr⟩, hcell⟩ := hse.at 2 h2
    rw [hrd] at hvr
    obtain ⟨ar, cr, rfl, _⟩ := hvr.out
    have w2x := hcell 2 (by simp)
    simp at w2x
    have HVR : Hid (SlOf wf 1 RInt (.slice ar 1 cr) [mixL 7 [seed, 1, 0]]) := hvr
    have HB7 : Hid (Below v.heap.size v wf) := HB6.out.trans (hbf.mono HB6.out.size)
    have HBF : Hid (Below w.heap.size w wf) := HV.out.trans (HB7.out.mono HV.out.size)
    have HS5 : Hid (∀ w', Below wf.heap.size wf w' → (fun w' => w'.cell? ⟨bx, ox + 2 * 4 + 2, none⟩ = some (.slice ar 1 cr)) w') := fun w' hh => (hh.cell (block_lt w2x)).trans w2x
    clear hne hse hbf hcell hrd hvr w2x HRD
    refine hK.out _ _ (HSF.out _ HB7.out) (fun hHeld => ?_)
    clear hK K
    try simp only [Act.put, List.setIfInBounds_toArray, List.set_cons_zero, List.set_cons_succ]
    refine wpXs 10 rfl (by kernel_rfl) (fun K hK => ?_)
    go_simp
    refine hK.out _ _ (HSF.out _ HB7.out) (fun hHeld => ?_)
    clear hK K
    try simp only [Act.put, List.setIfInBounds_toArray, List.set_cons_zero, List.set_cons_succ]
    refine wpXt (v := ?_) 11 rfl (by kernel_rfl) (fun _ _ _ h => h) (by rfl) ?_ hHeld ?_
    rotate_left
    · intro w' hSw
      go_simp <;> with_reducible rfl
    try simp only [Act.put, List.setIfInBounds_toArray, List.set_cons_zero, List.set_cons_succ]
    refine wpXt (v := ?_) 12 rfl (by kernel_rfl) (fun _ _ _ h => h) (by rfl) ?_ hHeld ?_
    rotate_left
    · intro w' hSw
      go_simp <;> with_reducible rfl
    try simp only [Act.put, List.setIfInBounds_toArray, List.set_cons_zero, List.set_cons_succ]
    refine wpXs 13 rfl (by kernel_rfl) (fun K hK => ?_)
    go_simp
    refine hK.out _ _ (HSF.out _ HB7.out) (fun hHeld => ?_)
    clear hK K
    try simp only [Act.put, List.setIfInBounds_toArray, List.set_cons_zero, List.set_cons_succ]
    refine wpXs 14 rfl (by kernel_rfl) (fun K hK => ?_)
    go_simp
    refine hK.out _ _ (HSF.out _ HB7.out) (fun hHeld => ?_)
    clear hK K
    try simp only [Act.put, List.setIfInBounds_toArray, List.set_cons_zero, List.set_cons_succ]
    refine wpAnyX_done (by kernel_rfl) ?_ _

    clear hHeld HCT HJV HSF HQ2 hqc hq1 hq2
    go_upto_region 5 with fail
    --CUT5
    refine wp_region_X (fun w' => w'.cell? ⟨bx, ox + 2 * 4 + 2, none⟩ = some (.slice ar 1 cr)) 99 (by kernel_rfl) (HS5.out _ (Below.refl _ _).drew) (fun hHeld => ?_)
    refine wpXt (v := ?_) 0 rfl (by kernel_rfl) (fun _ _ _ h => h) (by rfl) ?_ hHeld ?_
    rotate_left
    · intro w' hSw
      go_simp <;> with_reducible rfl
    try simp only [Act.put, List.setIfInBounds_toArray, List.set_cons_zero, List.set_cons_succ]
    refine wpXt (v := ?_) 1 rfl (by kernel_rfl) (fun _ _ _ h => h) (by rfl) ?_ hHeld ?_
    rotate_left
    · intro w' hSw
      go_simp <;> with_reducible rfl
    try simp only [Act.put, List.setIfInBounds_toArray, List.set_cons_zero, List.set_cons_succ]
    refine wpXt (v := ?_) 2 rfl (by kernel_rfl) (fun _ _ _ h => h) (by rfl) ?_ hHeld ?_
    rotate_left
    · intro w' hSw
      go_simp <;> with_reducible rfl
    try simp only [Act.put, List.setIfInBounds_toArray, List.set_cons_zero, List.set_cons_succ]
    refine wpXt (v := ?_) 3 rfl (by kernel_rfl) (fun _ _ _ h => h) (by rfl) ?_ hHeld ?_
    rotate_left
    · intro w' hSw
      go_simp <;> with_reducible rfl
    try simp only [Act.put, List.setIfInBounds_toArray, List.set_cons_zero, List.set_cons_succ]
    refine wpXt (v := ?_) 4 rfl (by kernel_rfl) (fun _ _ _ h => h) (by rfl) ?_ hHeld ?_
    rotate_left
    · intro w' hSw
      go_simp <;> with_reducible rfl
    try simp only [Act.put, List.setIfInBounds_toArray, List.set_cons_zero, List.set_cons_succ]
    refine wpXt (v := ?_) 5 rfl (by kernel_rfl) (fun _ _ _ h => h) (by rfl) ?_ hHeld ?_
    rotate_left
    · intro w' hSw
      go_simp <;> with_reducible rfl
    try simp only [Act.put, List.setIfInBounds_toArray, List.set_cons_zero, List.set_cons_succ]
    refine wpXt (v := ?_) 6 rfl (by kernel_rfl) (fun _ _ _ h => h) (by rfl) ?_ hHeld ?_
    rotate_left
    · intro w' hSw
      go_simp <;> with_reducible rfl
    try simp only [Act.put, List.setIfInBounds_toArray, List.set_cons_zero, List.set_cons_succ]
    refine wpXt (v := ?_) 7 rfl (by kernel_rfl) (fun _ _ _ h => h) (by rfl) ?_ hHeld ?_
    rotate_left
    · intro w' hSw
      go_simp <;> with_reducible rfl
    try simp only [Act.put, List.setIfInBounds_toArray, List.set_cons_zero, List.set_cons_succ]
    refine wpXt (v := ?_) 8 rfl (by kernel_rfl) (fun _ _ _ h => h) (by rfl) ?_ hHeld ?_
    rotate_left
    · intro w' hSw
      go_simp <;> with_reducible rfl
    try simp only [Act.put, List.setIfInBounds_toArray, List.set_cons_zero, List.set_cons_succ]
    refine wpXt (v := ?_) 9 rfl (by kernel_rfl) (fun _ _ _ h => h) (by rfl) ?_ hHeld ?_
    rotate_left
    · intro w' hSw
      go_simp <;> with_reducible rfl
    try simp only [Act.put, List.setIfInBounds_toArray, List.set_cons_zero, List.set_cons_succ]
    refine wpXt (v := ?_) 10 rfl (by kernel_rfl) (fun _ _ _ h => h) (by rfl) ?_ hHeld ?_
    rotate_left
    · intro w' hSw
      go_simp <;> with_reducible rfl
    try simp only [Act.put, List.setIfInBounds_toArray, List.set_cons_zero, List.set_cons_succ]
    refine wpXt (v := ?_) 11 rfl (by kernel_rfl) (fun _ _ _ h => h) (by rfl) ?_ hHeld ?_
    rotate_left
    · intro w' hSw
      go_simp <;> with_reducible rfl
    try simp only [Act.put, List.setIfInBounds_toArray, List.set_cons_zero, List.set_cons_succ]
    refine wpXt (v := ?_) 12 rfl (by kernel_rfl) (fun _ _ _ h => h) (by rfl) ?_ hHeld ?_
    rotate_left
    · intro w' hSw
      go_simp <;> with_reducible rfl
    try simp only [Act.put, List.setIfInBounds_toArray, List.set_cons_zero, List.set_cons_succ]
    --CUT9
    refine wpXs 13 rfl (by kernel_rfl) (fun K hK => ?_)
    go_simp
    refine (op_bare 1 _).mono ?_
    rintro e w8 ⟨rfl, b8⟩
    have HB8 : Hid (Below wf.heap.size wf w8) := ((Below.refl _ _).drew).trans b8
    clear b8
    refine hK.out _ _ (HS5.out _ HB8.out) (fun hHeld => ?_)
    clear hK K
    try simp only [Act.put, List.setIfInBounds_toArray, List.set_cons_zero, List.set_cons_succ]
    refine wpXs 14 rfl (by kernel_rfl) (fun K hK => ?_)
    go_simp
    refine (made_any seed 1 0 (.slice none 0 0) (.slice none 0 0) [] none 0 0 (mixL 7 [seed, 1, 0]) w8 rfl (sl_none _ _ _) rfl).mono ?_
    rintro e w9 ⟨rfl, b9⟩
    have HB9 : Hid (Below wf.heap.size wf w9) := HB8.out.trans (b9.mono HB8.out.size)
    clear b9
    generalize mixL 7 [seed, 1, 0] = want at *
    refine hK.out _ _ (HS5.out _ HB9.out) (fun hHeld => ?_)
    clear hK K
    try simp only [Act.put, List.setIfInBounds_toArray, List.set_cons_zero, List.set_cons_succ]
    refine wpXs 15 rfl (by kernel_rfl) (fun K hK => ?_)
    go_simp
    obtain ⟨W9, hW9⟩ : ∃ W9, W9 = w9.alloc (.cells #[.int .i64 want] 3) := ⟨_, rfl⟩
    obtain ⟨Y, hY⟩ : ∃ Y, w9.heap.size = Y := ⟨_, rfl⟩
    have b9 : Below w9.heap.size w9 W9 := by rw [hW9]; exact (Below.refl _ _).alloc (Nat.le_refl _) _
    have s9 : SlOf W9 1 RInt (.slice (some ⟨Y, 0, none⟩) 1 1) [want] := by
      rw [hW9, ← hY]
      exact sl_newL [[.int .i64 want]] [want] rfl (by simp) rfl (by simp) (fun i h h' => by
        match i, h with
        | 0, _ => rfl) (by decide)
    have HB10 : Hid (Below wf.heap.size wf W9) := HB9.out.trans (b9.mono HB9.out.size)
    have HC := sameInts_true [want] ar (some ⟨Y, 0, none⟩) 1 cr 1 W9 rfl (HVR.out.below HB10.out fun _ _ h => h) s9
    rw [← hW9, hY]
    clear hW9 hY b9 s9
    refine hK.out _ _ (HS5.out _ HB10.out) (fun hHeld => ?_)
    clear hK K
    try simp only [Act.put, List.setIfInBounds_toArray, List.set_cons_zero, List.set_cons_succ]
    refine wpXs 16 rfl (by kernel_rfl) (fun K hK => ?_)
    go_simp
    refine HC.mono ?_
    clear HC
    rintro e w10 ⟨rfl, b10⟩
    have HB11 : Hid (Below wf.heap.size wf w10) := HB10.out.trans (b10.mono HB10.out.size)
    clear b10
    refine hK.out _ _ (HS5.out _ HB11.out) (fun hHeld => ?_)
    clear hK K
    try simp only [Act.put, List.setIfInBounds_toArray, List.set_cons_zero, List.set_cons_succ]
    refine wpXs 17 rfl (by kernel_rfl) (fun K hK => ?_)
    go_simp
    refine hK.out _ _ (HS5.out _ HB11.out) (fun hHeld => ?_)
    clear hK K
    try simp only [Act.put, List.setIfInBounds_toArray, List.set_cons_zero, List.set_cons_succ]
    refine wpXs 18 rfl (by kernel_rfl) (fun K hK => ?_)
    go_simp
    refine hK.out _ _ (HS5.out _ HB11.out) (fun hHeld => ?_)
    clear hK K
    try simp only [Act.put, List.setIfInBounds_toArray, List.set_cons_zero, List.set_cons_succ]
    refine wpAnyX_done (by kernel_rfl) ?_ _
    have HE : Hid (Below w.heap.size w w10) := HBF.out.trans (HB11.out.mono HBF.out.size)
    clear hHeld
    go_wp2
    go_ret
    exact ⟨rfl, HE.out⟩


end Go.Proofs.Ytjbjnndmpheedaa
