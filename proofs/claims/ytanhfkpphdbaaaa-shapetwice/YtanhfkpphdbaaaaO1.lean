/-
  A slice that is copied by 'append(nil, x..)': the law, and the memory of the statements' own 'own'.
  The memory of the statements' own 'own': what has been copied so far.
-/
import Derived.Test.YtanhfkpphdbaaaaW4
import Derived.Deep.Upon
namespace Go.Proofs.Ytanhfkpphdbaaaa
open Go.RowKit
set_option linter.unusedVariables false

section
variable {P : Program} (w : World)
theorem run_copy (t ty : TypeId) (base : Nat) (e : TypeId) (i : TypeInfo) (z : Value) (size bytes : Nat) (ht : P.underlying t = some (.slice e)) (hi : P.info? e = some i) (hz : i.zero = some z)
    (hsize : i.size = size) (hby : i.bytes = bytes) (hzs : z.cells.size = size) (hsz : 0 < size)
    (ax : Option Addr) (m c : Nat) (news : List Value) (hl : news.length = m * size) (hnews : m = 0 ∨ ∃ ad, ax = some ad ∧ ∀ j u, news[j]? = some u → w.cell? (ad.add j) = some u) (h1 : ∀ u ∈ news, u.oneCell' = true)
    (h63 : m ≤ maxLen) (hbytes : m * bytes ≤ 140737488355328) (hbase : base ≤ w.heap.size) :
    ∃ a' cap w', (Builtin.append_ #[t, t] ty #[.slice none 0 0, .slice ax m c]).run P w = .ok (.slice a' m cap) w' ∧ w'.ownsRow base e size (.slice a' m cap) m news ∧ w.grownBy w' none ∧ (m = 0 ∧ a' = none ∨ a' = some ⟨w.heap.size, 0, none⟩) := by
  by_cases hm : m = 0
  · subst hm
    have hn : news = [] := List.length_eq_zero_iff.1 (by rw [hl]; simp)
    subst hn
    refine ⟨none, 0, w, ?_, World.ownsRow_nil _ _ _ _, ⟨rfl, rfl, rfl, Nat.le_refl _, fun _ _ _ => rfl⟩, Or.inl ⟨rfl, rfl⟩⟩
    cases ax with
    | none => exact run_append_nothing w t t ty e i ht hi none 0 0 (Nat.le_refl _) _ (Src.ofNil w ht c)
    | some ad => exact run_append_nothing w t t ty e i ht hi none 0 0 (Nat.le_refl _) _ (Src.ofSlice w ht ad 0 c [] (by simp) (by simp) (by simp))
  · obtain ⟨ad, rfl, hc⟩ := hnews.resolve_left hm
    obtain ⟨g, cap, w', hr, h2, h3, h4, _⟩ := run_append_lies (P := P) w t ty base e i z size bytes ht hi hz hsize hby hzs hsz (.slice none 0 0) 0 [] (World.ownsRow_nil _ _ _ _) ad m c news hl hc h1 (by omega) (by omega) (by simpa using hbytes) hbase w.heap.size rfl
    rw [Nat.zero_add] at hr h2
    refine ⟨_, _, _, hr, by simpa using h2, h3, Or.inr ?_⟩
    rcases h4 with h4 | h4
    · simp [Value.ownBlock] at h4
    · rw [h4]
theorem wpList_copy {ops : Array Oper} {rest : List Oper} {o : Oper} {a : Act} {Q : Exit → Act → World → Prop} (hgd : o.guard = none) (s x : Operand) (t : TypeId)
    (ho : o.op = .call { callee := .builtin .append, args := #[s, x], argTypes := #[t, t] })
    (base : Nat) (e : TypeId) (i : TypeInfo) (z : Value) (size bytes : Nat) (ht : P.underlying t = some (.slice e)) (hi : P.info? e = some i) (hz : i.zero = some z)
    (hsize : i.size = size) (hby : i.bytes = bytes) (hzs : z.cells.size = size) (hsz : 0 < size)
    (hs : a.eval s = .slice none 0 0) (ax : Option Addr) (m c : Nat) (news : List Value) (hx : a.eval x = .slice ax m c) (hl : news.length = m * size) (hnews : m = 0 ∨ ∃ ad, ax = some ad ∧ ∀ j u, news[j]? = some u → w.cell? (ad.add j) = some u) (h1 : ∀ u ∈ news, u.oneCell' = true)
    (h63 : m ≤ maxLen) (hbytes : m * bytes ≤ 140737488355328) (hbase : base ≤ w.heap.size)
    (h : ∀ a' cap w', w'.ownsRow base e size (.slice a' m cap) m news → w.grownBy w' none → (m = 0 ∧ a' = none ∨ a' = some ⟨w.heap.size, 0, none⟩) → wpList P ops Q rest (a.put o.dst (.slice a' m cap)) w') : wpList P ops Q (o :: rest) a w :=
  wpList_plain hgd fun _ hK => by
    obtain ⟨a', cap, w', hr, h2, h3, h4⟩ := run_copy (P := P) w t o.type base e i z size bytes ht hi hz hsize hby hzs hsz ax m c news hl hnews h1 h63 hbytes hbase
    unfold Oper.wp execOp
    simp only [ho, resolve, invoke, builtin, Sem.run_bind, Sem.run_pure, Result.andThen_ok, List.map_toArray, List.map_cons, List.map_nil, hs, hx, hr]
    exact hK _ _ (h a' cap w' h2 h3 h4)
end
theorem add_off (b off j : Nat) : (⟨b, off, none⟩ : Addr).add j = ⟨b, off + j, none⟩ := by unfold Addr.add; split <;> simp_all
/-- What a slice reads as lies there in cells. -/
theorem SlOf.news {α : Type} {w : World} {k : Nat} {R : List Value → α → Prop} {a : Option Addr} {n c : Nat} {l : List α} (f : α → List Value) (hf : ∀ x, (f x).length = k) (hk : 0 < k) (hR : ∀ cs x, R cs x → cs = f x) (h : SlOf w k R (.slice a n c) l) : n = l.length ∧ (l.flatMap f).length = n * k ∧ (n = 0 ∨ ∃ ad, a = some ad ∧ ∀ j u, (l.flatMap f)[j]? = some u → w.cell? (ad.add j) = some u) := by
  obtain ⟨a', c', hv, _, h⟩ := h
  simp only [Value.slice.injEq] at hv
  obtain ⟨rfl, rfl, _⟩ := hv
  refine ⟨rfl, flat_length f k hf l, ?_⟩
  rcases h with rfl | ⟨b, off, rfl, h⟩
  · exact Or.inl rfl
  · refine Or.inr ⟨_, rfl, fun j u hu => ?_⟩
    have hj : j < l.length * k := by
      rw [← flat_length f k hf l]
      exact (List.getElem?_eq_some_iff.1 hu).1
    have hi : j / k < l.length := Nat.div_lt_of_lt_mul (by rw [Nat.mul_comm]; exact hj)
    have hr : j % k < k := Nat.mod_lt _ hk
    have hjj : j = j / k * k + j % k := by rw [Nat.mul_comm]; exact (Nat.div_add_mod j k).symm
    obtain ⟨cs, h1, h2, h3⟩ := h (j / k) hi
    have e := hR _ _ h2
    rw [add_off]
    have h4 := flat_at f k hf l (j / k) (j % k) hi hr
    rw [← hjj, hu, ← e] at h4
    have h5 := h3 (j % k) (by omega)
    rw [Nat.add_assoc, ← hjj] at h5
    rw [h5]
    rw [List.getElem?_eq_getElem (by omega)] at h4
    exact h4.symm
theorem grown_below {w w' : World} (h : w.grownBy w' none) : Below w.heap.size w w' := ⟨h.os, h.tape, h.output, h.size, fun b hb => h.block b hb (by simp)⟩
/-- What was copied lies where nothing is written any more. -/
theorem copy_slk {α : Type} {κ : Nat → Nat} {w w' : World} {base e k m cap : Nat} {a' : Option Addr} {R : List Value → α → Prop} (f : α → List Value) (hk : ∀ x, (f x).length = k) (hk0 : 0 < k) (hR : ∀ x, R (f x) x) (l : List α) (hl : l.length = m) (h : w'.ownsRow base e k (.slice a' m cap) m (l.flatMap f)) (hn : m ≤ longest) (hat : m = 0 ∧ a' = none ∨ a' = some ⟨w.heap.size, 0, none⟩) (hf : ∀ b, w.heap.size ≤ b → κ b = 0) : SlK κ w' k R (.slice a' m cap) l := by
  refine ⟨own_sl f hk hk0 hR l h hn, ?_⟩
  rcases hat with ⟨h0, _⟩ | h0
  · exact Or.inl (List.length_eq_zero_iff.1 (by omega))
  · right
    intro g hg
    have hlt := (own_base h hg).2
    rw [h0] at hg
    simp [Value.ownBlock] at hg
    rw [← hg]
    exact ⟨hf _ (Nat.le_refl _), by rw [hg]; exact hlt⟩
theorem copy_far {α : Type} {w : World} {m cap : Nat} {a' : Option Addr} (l : List α) (hl : l.length = m) (hat : m = 0 ∧ a' = none ∨ a' = some ⟨w.heap.size, 0, none⟩) : l = [] ∨ ∀ g, (Value.slice a' m cap).ownBlock = some g → g = w.heap.size := by
  rcases hat with ⟨h0, _⟩ | h0
  · exact Or.inl (List.length_eq_zero_iff.1 (by omega))
  · right
    intro g hg
    rw [h0] at hg
    simp [Value.ownBlock] at hg
    exact hg.symm
theorem SlK.set {α : Type} {κ : Nat → Nat} {w : World} {k : Nat} {R : List Value → α → Prop} {v : Value} {l : List α} (h : SlK κ w k R v l) (X i : Nat) (u : Value) (hn : l = [] ∨ ∀ g, v.ownBlock = some g → g ≠ X) : SlK κ (w.setCell ⟨X, i, none⟩ u) k R v l := by
  obtain ⟨⟨a, cap, hv, hl, h1⟩, hk⟩ := h
  by_cases he : l = []
  · exact ⟨⟨a, cap, hv, hl, Or.inl he⟩, Or.inl he⟩
  · have hk' := hk.resolve_left he
    have hn' := hn.resolve_left he
    refine ⟨⟨a, cap, hv, hl, h1.imp id ?_⟩, Or.inr fun g hg => ⟨(hk' g hg).1, by simpa [World.setCell] using (hk' g hg).2⟩⟩
    rintro ⟨b, off, ha, h2⟩
    refine ⟨b, off, ha, fun q hq => ?_⟩
    obtain ⟨cs, h3, h4, h5⟩ := h2 q hq
    have hb := hn' b (by rw [hv, ha]; rfl)
    refine ⟨cs, h3, h4, fun j hj => ?_⟩
    rw [World.cell?_of_block (w := w) (a := ⟨b, off + q * k + j, none⟩) (Below.heap_setCell _ _ _ _ hb)]
    exact h5 j hj
theorem SlK.below {α : Type} {κ : Nat → Nat} {w w' : World} {k : Nat} {R : List Value → α → Prop} {v : Value} {l : List α} (h : SlK κ w k R v l) (hb : Below w.heap.size w w') : SlK κ w' k R v l := h.only (Only.of_below (S := fun _ => False) hb) (fun h => h)
theorem one_cI (l : List Int) : ∀ u ∈ l.flatMap cI, u.oneCell' = true := fun u hu => by
  obtain ⟨x, _, hx⟩ := List.mem_flatMap.1 hu
  simp [cI] at hx
  rw [hx]
  rfl
theorem one_cO (l : List Opr) : ∀ u ∈ l.flatMap cO, u.oneCell' = true := fun u hu => by
  obtain ⟨x, _, hx⟩ := List.mem_flatMap.1 hu
  simp [cO] at hx
  rcases hx with rfl | rfl | rfl | rfl | rfl <;> rfl
theorem one_cR (l : List Rg) : ∀ u ∈ l.flatMap cR, u.oneCell' = true := fun u hu => by
  obtain ⟨x, _, hx⟩ := List.mem_flatMap.1 hu
  simp [cR] at hx
  rcases hx with rfl | rfl <;> rfl
end Go.Proofs.Ytanhfkpphdbaaaa
namespace Go.Proofs.Ytanhfkpphdbaaaa
open Go.RowKit
set_option linter.unusedVariables false

/-- The first k blocks are copied: the row vo. Roles: 1 the function's box, 5 what is answered, 4 the row of blocks, 2 a block's box, two for each block. -/
structure OwS (N : Nat) (w0 : World) (vv0 vb0 : Value) (bs : List Blk) (κ : Nat → Nat) (w : World) (k : Nat) (vo : Value) (bx : Nat → Value × Value × Value) : Prop where
  bel : Below N w0 w
  rF : w.rowIs N 32 2 (fun q => if q = 0 then vv0 else vb0)
  kF : κ N = 1
  rR : w.rowIs (N + 1) 32 2 (fun _ => .slice none 0 0)
  kR : κ (N + 1) = 5
  ob : w.ownsRow N 45 3 vo k ((List.range k).flatMap fun j => c3 (bx j))
  kb : ∀ g, vo.ownBlock = some g → κ g = 4
  blk : ∀ j (h : j < k) (h' : j < bs.length), BlkS N κ w j (bx j) bs[j]
  fresh : ∀ b, w.heap.size ≤ b → κ b = 0
  lowN : ∀ b, b < N → κ b = 0
  szN : N ≤ w.heap.size
/-- Block k is being copied: its box, the instructions and the edges so far. -/
structure OwI (N : Nat) (κ : Nat → Nat) (w : World) (k : Nat) (b : Blk) (Bb : Nat) (vp vi ve : Value) (i : Nat) (vx : Value) (j : Nat) (vy : Value) : Prop where
  rB : w.rowIs Bb 45 3 (fun q => if q = 0 then vp else if q = 1 then vi else ve)
  kB : κ Bb = 2
  xs : ∃ L : List (Ins × Value × Value), L.map (·.1) = b.instrs.take i ∧ w.ownsRow N 41 3 vx i (L.flatMap cX) ∧ ∀ p ∈ L, SlK κ w 5 ROpr p.2.1 p.1.operands ∧ SlK κ w 2 RRg p.2.2 p.1.spoils
  kx : ∀ g, vx.ownBlock = some g → κ g = 6 + 2 * k
  es : ∃ M : List (Edg × Value), M.map (·.1) = b.edges.take j ∧ w.ownsRow N 54 2 vy j (M.flatMap cE) ∧ ∀ p ∈ M, SlK κ w 1 RInt p.2 p.1.args
  ke : ∀ g, vy.ownBlock = some g → κ g = 7 + 2 * k
section
variable {N : Nat} {w0 : World} {vv0 vb0 : Value} {bs : List Blk} {κ κ' : Nat → Nat} {w w' wa wb : World} {k : Nat} {vo : Value} {bx : Nat → Value × Value × Value} {S : Nat → Prop}
theorem OwS.only (h : OwS N w0 vv0 vb0 bs κ w k vo bx) (ho : Only S κ κ' w w') (hS : ∀ r, S r → r = 2 ∨ r = 3 ∨ 6 + 2 * k ≤ r) (hf : ∀ b, w'.heap.size ≤ b → κ' b = 0) : OwS N w0 vv0 vb0 bs κ' w' k vo bx := by
  have no : ∀ r, r ≠ 2 → r ≠ 3 → r < 6 + 2 * k → ¬ S r := fun r h1 h2 h3 hs => by have := hS r hs; omega
  have o1 := own_only h.ob h.kb ho (no 4 (by omega) (by omega) (by omega))
  exact ⟨h.bel.trans (ho.below h.szN fun b hb => by rw [h.lowN b hb]; exact no 0 (by omega) (by omega) (by omega)), h.rF.of_block (ho.block N h.rF.lt (by rw [h.kF]; exact no 1 (by omega) (by omega) (by omega))), by rw [ho.role N h.rF.lt]; exact h.kF, h.rR.of_block (ho.block _ h.rR.lt (by rw [h.kR]; exact no 5 (by omega) (by omega) (by omega))), by rw [ho.role _ h.rR.lt]; exact h.kR, o1.1, o1.2, fun j hj hj' => (h.blk j hj hj').only ho (no 0 (by omega) (by omega) (by omega)) (no _ (by omega) (by omega) (by omega)) (no _ (by omega) (by omega) (by omega)), hf, fun b hb => by rw [ho.role b (by have := h.szN; omega)]; exact h.lowN b hb, Nat.le_trans h.szN ho.size⟩
theorem OwS.below (h : OwS N w0 vv0 vb0 bs κ w k vo bx) (hb : Below w.heap.size w w') : OwS N w0 vv0 vb0 bs κ w' k vo bx := h.only (Only.of_below (S := fun r => r = 3) hb) (fun r hr => by omega) fun b hb' => h.fresh b (Nat.le_trans hb.size hb')
variable {b : Blk} {Bb : Nat} {vp vi ve : Value} {i : Nat} {vx : Value} {j : Nat} {vy : Value}
theorem OwI.only (h : OwI N κ w k b Bb vp vi ve i vx j vy) (ho : Only S κ κ' w w') (h0 : ¬ S 0) (h2 : ¬ S 2) (h6 : ¬ S (6 + 2 * k)) (h7 : ¬ S (7 + 2 * k)) : OwI N κ' w' k b Bb vp vi ve i vx j vy := by
  obtain ⟨L, l1, l2, l3⟩ := h.xs
  obtain ⟨M, m1, m2, m3⟩ := h.es
  have o1 := own_only l2 h.kx ho h6
  have o2 := own_only m2 h.ke ho h7
  exact ⟨h.rB.of_block (ho.block _ h.rB.lt (by rw [h.kB]; exact h2)), by rw [ho.role _ h.rB.lt]; exact h.kB, ⟨L, l1, o1.1, fun p hp => ⟨(l3 p hp).1.only ho h0, (l3 p hp).2.only ho h0⟩⟩, o1.2, ⟨M, m1, o2.1, fun p hp => (m3 p hp).only ho h0⟩, o2.2⟩
theorem OwI.below (h : OwI N κ w k b Bb vp vi ve i vx j vy) (hb : Below w.heap.size w w') : OwI N κ w' k b Bb vp vi ve i vx j vy := h.only (Only.of_below (S := fun _ => False) hb) (fun h => h) (fun h => h) (fun h => h) (fun h => h)
/-- An instruction more. -/
theorem OwI.pushX {g cap : Nat} (hS : OwS N w0 vv0 vb0 bs κ w k vo bx) (h : OwI N κ w k b Bb vp vi ve i vx j vy) (hwa : Below w.heap.size w wa) (hgrow : wa.grownBy wb vx.ownBlock) (L : List (Ins × Value × Value)) (hL : L.map (·.1) = b.instrs.take i) (hLs : ∀ p ∈ L, SlK κ w 5 ROpr p.2.1 p.1.operands ∧ SlK κ w 2 RRg p.2.2 p.1.spoils)
    (x : Ins) (vo' vs' : Value) (hx : b.instrs[i]? = some x) (hown : wb.ownsRow N 41 3 (.slice (some ⟨g, 0, none⟩) (i + 1) cap) (i + 1) (L.flatMap cX ++ [.int .i64 x.op, vo', vs'])) (hat : vx.ownBlock = some g ∨ g = wa.heap.size) (h5 : SlK κ wa 5 ROpr vo' x.operands) (h2 : SlK κ wa 2 RRg vs' x.spoils) :
    OwS N w0 vv0 vb0 bs (upK κ g (6 + 2 * k)) wb k vo bx ∧ OwI N (upK κ g (6 + 2 * k)) wb k b Bb vp vi ve (i + 1) (.slice (some ⟨g, 0, none⟩) (i + 1) cap) j vy := by
  have hza := hwa.size
  have hz1 := hgrow.size
  have hgl : g < wb.heap.size := (own_base hown (g := g) rfl).2
  have hga : (g < wa.heap.size ∧ κ g = 6 + 2 * k) ∨ wa.heap.size ≤ g := by
    rcases hat with e | e
    · obtain ⟨L', _, l2, _⟩ := h.xs
      exact Or.inl ⟨by have := (own_base l2 e).2; omega, h.kx g e⟩
    · right; omega
  have hg : (g < w.heap.size ∧ κ g = 6 + 2 * k) ∨ w.heap.size ≤ g := by
    rcases hat with e | e
    · obtain ⟨L', _, l2, _⟩ := h.xs
      exact Or.inl ⟨(own_base l2 e).2, h.kx g e⟩
    · right; omega
  have ho : Only (fun r => r = 6 + 2 * k) κ (upK κ g (6 + 2 * k)) w wb := ((Only.of_below hwa).grown hgrow fun q hq => Or.inr (h.kx q hq)).tag (upK_old hg)
  have hoa : Only (fun r => r = 6 + 2 * k) κ (upK κ g (6 + 2 * k)) wa wb := ((Only.refl _ _ _).grown hgrow fun q hq => Or.inr (h.kx q hq)).tag (upK_old hga)
  have hf : ∀ b, wb.heap.size ≤ b → upK κ g (6 + 2 * k) b = 0 := fun b hb => by
    unfold upK
    rw [if_neg (by omega)]
    exact hS.fresh b (by omega)
  refine ⟨hS.only ho (fun r hr => by omega) hf, ?_⟩
  obtain ⟨M, m1, m2, m3⟩ := h.es
  have o2 := own_only m2 h.ke ho (by omega)
  refine ⟨h.rB.of_block (ho.block _ h.rB.lt (by rw [h.kB]; omega)), by rw [ho.role _ h.rB.lt]; exact h.kB, ⟨L ++ [(x, vo', vs')], ?_, ?_, fun p hp => ?_⟩, fun q hq => ?_, ⟨M, m1, o2.1, fun p hp => (m3 p hp).only ho (by omega)⟩, o2.2⟩
  · obtain ⟨hi, e⟩ := List.getElem?_eq_some_iff.1 hx
    rw [List.map_append, hL, List.take_succ_eq_append_getElem hi, e]
    rfl
  · rw [List.flatMap_append]
    exact hown
  · rcases List.mem_append.1 hp with hp | hp
    · exact ⟨(hLs p hp).1.only ho (by omega), (hLs p hp).2.only ho (by omega)⟩
    · rw [List.mem_singleton.1 hp]
      exact ⟨h5.only hoa (by omega), h2.only hoa (by omega)⟩
  · simp [Value.ownBlock] at hq
    simp [upK, hq]
/-- An edge more. -/
theorem OwI.pushE {g cap : Nat} (hS : OwS N w0 vv0 vb0 bs κ w k vo bx) (h : OwI N κ w k b Bb vp vi ve i vx j vy) (hwa : Below w.heap.size w wa) (hgrow : wa.grownBy wb vy.ownBlock) (M : List (Edg × Value)) (hM : M.map (·.1) = b.edges.take j) (hMs : ∀ p ∈ M, SlK κ w 1 RInt p.2 p.1.args)
    (x : Edg) (va' : Value) (hx : b.edges[j]? = some x) (hown : wb.ownsRow N 54 2 (.slice (some ⟨g, 0, none⟩) (j + 1) cap) (j + 1) (M.flatMap cE ++ [.int .i64 x.block, va'])) (hat : vy.ownBlock = some g ∨ g = wa.heap.size) (h1 : SlK κ wa 1 RInt va' x.args) :
    OwS N w0 vv0 vb0 bs (upK κ g (7 + 2 * k)) wb k vo bx ∧ OwI N (upK κ g (7 + 2 * k)) wb k b Bb vp vi ve i vx (j + 1) (.slice (some ⟨g, 0, none⟩) (j + 1) cap) := by
  have hza := hwa.size
  have hz1 := hgrow.size
  have hgl : g < wb.heap.size := (own_base hown (g := g) rfl).2
  have hga : (g < wa.heap.size ∧ κ g = 7 + 2 * k) ∨ wa.heap.size ≤ g := by
    rcases hat with e | e
    · obtain ⟨L', _, l2, _⟩ := h.es
      exact Or.inl ⟨by have := (own_base l2 e).2; omega, h.ke g e⟩
    · right; omega
  have hg : (g < w.heap.size ∧ κ g = 7 + 2 * k) ∨ w.heap.size ≤ g := by
    rcases hat with e | e
    · obtain ⟨L', _, l2, _⟩ := h.es
      exact Or.inl ⟨(own_base l2 e).2, h.ke g e⟩
    · right; omega
  have ho : Only (fun r => r = 7 + 2 * k) κ (upK κ g (7 + 2 * k)) w wb := ((Only.of_below hwa).grown hgrow fun q hq => Or.inr (h.ke q hq)).tag (upK_old hg)
  have hoa : Only (fun r => r = 7 + 2 * k) κ (upK κ g (7 + 2 * k)) wa wb := ((Only.refl _ _ _).grown hgrow fun q hq => Or.inr (h.ke q hq)).tag (upK_old hga)
  have hf : ∀ b, wb.heap.size ≤ b → upK κ g (7 + 2 * k) b = 0 := fun b hb => by
    unfold upK
    rw [if_neg (by omega)]
    exact hS.fresh b (by omega)
  refine ⟨hS.only ho (fun r hr => by omega) hf, ?_⟩
  obtain ⟨L, l1, l2, l3⟩ := h.xs
  have o2 := own_only l2 h.kx ho (by omega)
  refine ⟨h.rB.of_block (ho.block _ h.rB.lt (by rw [h.kB]; omega)), by rw [ho.role _ h.rB.lt]; exact h.kB, ⟨L, l1, o2.1, fun p hp => ⟨(l3 p hp).1.only ho (by omega), (l3 p hp).2.only ho (by omega)⟩⟩, o2.2, ⟨M ++ [(x, va')], ?_, ?_, fun p hp => ?_⟩, fun q hq => ?_⟩
  · obtain ⟨hi, e⟩ := List.getElem?_eq_some_iff.1 hx
    rw [List.map_append, hM, List.take_succ_eq_append_getElem hi, e]
    rfl
  · rw [List.flatMap_append]
    exact hown
  · rcases List.mem_append.1 hp with hp | hp
    · exact (hMs p hp).only ho (by omega)
    · rw [List.mem_singleton.1 hp]
      exact h1.only hoa (by omega)
  · simp [Value.ownBlock] at hq
    simp [upK, hq]
/-- A block more. -/
theorem OwS.pushB {g cap : Nat} (hS : OwS N w0 vv0 vb0 bs κ w k vo bx) (hk : k < bs.length) (h : OwI N κ w k bs[k] Bb vp vi ve bs[k].instrs.length vx bs[k].edges.length vy) (hwa : Below w.heap.size w wa) (hgrow : wa.grownBy wb vo.ownBlock) (vp' : Value)
    (hown : wb.ownsRow N 45 3 (.slice (some ⟨g, 0, none⟩) (k + 1) cap) (k + 1) (((List.range k).flatMap fun j => c3 (bx j)) ++ [vp', vx, vy])) (hat : vo.ownBlock = some g ∨ g = wa.heap.size) (h1 : SlK κ wa 1 RInt vp' bs[k].params) :
    OwS N w0 vv0 vb0 bs (upK κ g 4) wb (k + 1) (.slice (some ⟨g, 0, none⟩) (k + 1) cap) (fun j => if j = k then (vp', vx, vy) else bx j) := by
  have hza := hwa.size
  have hz1 := hgrow.size
  have hgl : g < wb.heap.size := (own_base hown (g := g) rfl).2
  have hga : (g < wa.heap.size ∧ κ g = 4) ∨ wa.heap.size ≤ g := by
    rcases hat with e | e
    · exact Or.inl ⟨by have := (own_base hS.ob e).2; omega, hS.kb g e⟩
    · right; omega
  have hg : (g < w.heap.size ∧ κ g = 4) ∨ w.heap.size ≤ g := by
    rcases hat with e | e
    · exact Or.inl ⟨(own_base hS.ob e).2, hS.kb g e⟩
    · right; omega
  have ho : Only (fun r => r = 4) κ (upK κ g 4) w wb := ((Only.of_below hwa).grown hgrow fun q hq => Or.inr (hS.kb q hq)).tag (upK_old hg)
  have hoa : Only (fun r => r = 4) κ (upK κ g 4) wa wb := ((Only.refl _ _ _).grown hgrow fun q hq => Or.inr (hS.kb q hq)).tag (upK_old hga)
  have hI := h.only ho (by omega) (by omega) (by omega) (by omega)
  refine ⟨hS.bel.trans (ho.below hS.szN fun b hb => by rw [hS.lowN b hb]; omega), hS.rF.of_block (ho.block N hS.rF.lt (by rw [hS.kF]; omega)), by rw [ho.role N hS.rF.lt]; exact hS.kF, hS.rR.of_block (ho.block _ hS.rR.lt (by rw [hS.kR]; omega)), by rw [ho.role _ hS.rR.lt]; exact hS.kR, ?_, fun q hq => ?_, fun j hj hj' => ?_, fun b hb => ?_, fun b hb => by rw [ho.role b (by have := hS.szN; omega)]; exact hS.lowN b hb, Nat.le_trans hS.szN ho.size⟩
  · simp only [List.range_succ, List.flatMap_append]
    have e : ((List.range k).flatMap fun j => c3 (if j = k then (vp', vx, vy) else bx j)) = (List.range k).flatMap fun j => c3 (bx j) := by
      simp only [List.flatMap_def]
      congr 1
      exact List.map_congr_left fun q hq => by rw [if_neg (by have := List.mem_range.1 hq; omega)]
    rw [e]
    have e2 : ([k].flatMap fun j => c3 (if j = k then (vp', vx, vy) else bx j)) = [vp', vx, vy] := by simp [c3]
    rw [e2]
    exact hown
  · simp [Value.ownBlock] at hq
    simp [upK, hq]
  · by_cases e : j = k
    · subst e
      simp only [if_true]
      obtain ⟨L, l1, l2, l3⟩ := hI.xs
      obtain ⟨M, m1, m2, m3⟩ := hI.es
      rw [List.take_of_length_le (Nat.le_refl _)] at l1 m1
      have hL : L.length = bs[j].instrs.length := by rw [← l1]; simp
      have hM : M.length = bs[j].edges.length := by rw [← m1]; simp
      exact ⟨h1.only hoa (by omega), ⟨L, l1, by rw [hL]; exact l2, l3⟩, hI.kx, ⟨M, m1, by rw [hM]; exact m2, m3⟩, hI.ke⟩
    · simp only [if_neg e]
      exact (hS.blk j (by omega) hj').only ho (by omega) (by omega) (by omega)
  · unfold upK
    rw [if_neg (by omega)]
    exact hS.fresh b (by omega)
/-- It begins. -/
theorem OwS.start (w : World) (vv0 vb0 : Value) (bs : List Blk) (N : Nat) (hN : w.heap.size = N) : OwS N w vv0 vb0 bs (upK (upK (fun _ => 0) N 1) (N + 1) 5) ((w.alloc (.cells #[vv0, vb0] 32)).alloc (.cells #[.slice none 0 0, .slice none 0 0] 32)) 0 (.slice none 0 0) (fun _ => (.slice none 0 0, .slice none 0 0, .slice none 0 0)) := by
  have r1 := World.rowIs_alloc w #[vv0, vb0] 32 (fun q => if q = 0 then vv0 else vb0) fun i hi => by
    simp at hi
    match i, hi with | 0, _ => rfl | 1, _ => rfl
  have r2 := World.rowIs_alloc (w.alloc (.cells #[vv0, vb0] 32)) #[.slice none 0 0, .slice none 0 0] 32 (fun _ => .slice none 0 0) fun i hi => by
    simp at hi
    match i, hi with | 0, _ => rfl | 1, _ => rfl
  have e : (w.alloc (.cells #[vv0, vb0] 32)).heap.size = N + 1 := by simp; omega
  rw [hN] at r1
  rw [e] at r2
  refine ⟨((Below.refl _ _).alloc (by omega) _).alloc (by simp; omega) _, r1.alloc _, by simp [upK], r2, by simp [upK], World.ownsRow_nil _ _ _ _, fun g hg => by simp [Value.ownBlock] at hg, fun j hj => by omega, fun b hb => ?_, fun b hb => ?_, by simp; omega⟩
  · simp at hb
    unfold upK
    rw [if_neg (by omega), if_neg (by omega)]
  · unfold upK
    rw [if_neg (by omega), if_neg (by omega)]
/-- A block's box is laid. -/
theorem OwS.box (h : OwS N w0 vv0 vb0 bs κ w k vo bx) (b : Blk) (vp vi ve : Value) : OwS N w0 vv0 vb0 bs (upK κ w.heap.size 2) (w.alloc (.cells #[vp, vi, ve] 45)) k vo bx ∧ OwI N (upK κ w.heap.size 2) (w.alloc (.cells #[vp, vi, ve] 45)) k b w.heap.size vp vi ve 0 (.slice none 0 0) 0 (.slice none 0 0) := by
  have ho : Only (fun r => r = 3) κ (upK κ w.heap.size 2) w (w.alloc (.cells #[vp, vi, ve] 45)) := (Only.of_below ((Below.refl _ _).alloc (Nat.le_refl _) _)).tag (upK_old (Or.inr (Nat.le_refl _)))
  refine ⟨h.only ho (fun r hr => by omega) fun b hb => ?_, World.rowIs_alloc w #[vp, vi, ve] 45 _ fun i hi => ?_, by simp [upK], ⟨[], by simp, World.ownsRow_nil _ _ _ _, by simp⟩, fun g hg => by simp [Value.ownBlock] at hg, ⟨[], by simp, World.ownsRow_nil _ _ _ _, by simp⟩, fun g hg => by simp [Value.ownBlock] at hg⟩
  · simp at hb
    unfold upK
    rw [if_neg (by omega)]
    exact h.fresh b (by omega)
  · simp at hi
    match i, hi with | 0, _ => rfl | 1, _ => rfl | 2, _ => rfl
/-- What 'own' answers: all of it in memory of its own. -/
structure OwR (N : Nat) (κ : Nat → Nat) (w : World) (f : Fn) (vv vb : Value) (bx : Nat → Value × Value × Value) : Prop where
  ov : w.ownsRow N 3 1 vv f.values.length (f.values.flatMap cI)
  kv : ∀ g, vv.ownBlock = some g → κ g = 2
  ob : w.ownsRow N 45 3 vb f.blocks.length ((List.range f.blocks.length).flatMap fun j => c3 (bx j))
  kb : ∀ g, vb.ownBlock = some g → κ g = 4
  blk : ∀ j (h : j < f.blocks.length), BlkS N κ w j (bx j) f.blocks[j]
  fresh : ∀ b, w.heap.size ≤ b → κ b = 0
  lowN : ∀ b, b < N → κ b = 0
  szN : N ≤ w.heap.size
theorem OwR.reads {f : Fn} {vv vb : Value} (h : OwR N κ w f vv vb bx) (hv : f.values.length ≤ longest) (hb : f.blocks.length ≤ longest) (hi : ∀ b ∈ f.blocks, b.instrs.length ≤ longest ∧ b.edges.length ≤ longest) : SlOf w 1 RInt vv f.values ∧ SlOf w 3 (RBlk w) vb f.blocks := by
  refine ⟨own_ints _ h.ov hv, ?_⟩
  have := own_sl (k := 3) (R := fun cs j => cs = c3 (bx j)) (fun j => c3 (bx j)) (fun _ => rfl) (by decide) (fun _ => rfl) (List.range f.blocks.length) h.ob hb
  refine this.turn (by simp) fun i h1 h2 cs hcs => ?_
  rw [hcs, List.getElem_range]
  have hm := hi _ (List.getElem_mem h2)
  exact (h.blk i h2).reads hm.1 hm.2
end
/-- None of a function's lists is too long. -/
structure FnFit (f : Fn) : Prop where
  nv : f.values.length ≤ 1000
  nb : f.blocks.length ≤ 1000
  blk : ∀ b ∈ f.blocks, b.params.length ≤ 1000 ∧ b.instrs.length ≤ 1000 ∧ b.edges.length ≤ 1000
  ins : ∀ b ∈ f.blocks, ∀ x ∈ b.instrs, x.operands.length ≤ 1000 ∧ x.spoils.length ≤ 1000
  edg : ∀ b ∈ f.blocks, ∀ e ∈ b.edges, e.args.length ≤ 1000
end Go.Proofs.Ytanhfkpphdbaaaa
