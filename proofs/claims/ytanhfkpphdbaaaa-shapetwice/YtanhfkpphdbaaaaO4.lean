/-
  What is done with a function that is one's own: two blocks more, other edges of a block.
  An edge from many to many is told: two blocks more behind the one that has no edge. No Go in here.
-/
import Derived.Test.YtanhfkpphdbaaaaO3
namespace Go.Proofs.Ytanhfkpphdbaaaa
open Go.RowKit
set_option linter.unusedVariables false

section
variable {N : Nat} {κ κ' : Nat → Nat} {w w' wa wb : World} {f : Fn} {vv vb : Value} {bx : Nat → Value × Value × Value} {S : Nat → Prop}
/-- A new block of memory, of whatever role that nothing of the function's has yet. -/
theorem OwR.boxr (h : OwR N κ w f vv vb bx) (o : Obj) (r : Nat) : OwR N (upK κ w.heap.size r) (w.alloc o) f vv vb bx := by
  refine h.only (S := fun r => r = 5) ((Only.of_below ((Below.refl _ _).alloc (Nat.le_refl _) _)).tag (upK_old (Or.inr (Nat.le_refl _)))) (fun r hr => hr) fun b hb => ?_
  simp at hb
  unfold upK
  rw [if_neg (by omega)]
  exact h.fresh b (by omega)
theorem own_new (w : World) (base e size n : Nat) (cs : Array Value) (hb : base ≤ w.heap.size) (hn : cs.size = n * size) (hm : n ≤ maxLen) : (w.alloc (.cells cs e)).ownsRow base e size (.slice (some ⟨w.heap.size, 0, none⟩) n n) n cs.toList := by
  refine ⟨by simpa using hn, Or.inr ⟨w.heap.size, n, cs, rfl, hb, heap_alloc_new w _, Nat.le_refl _, hm, hn, ?_⟩⟩
  exact List.take_of_length_le (by simp; omega)
/-- Two blocks more. -/
theorem OwR.push2 {g cap : Nat} (h : OwR N κ w f vv vb bx) (hwa : Below w.heap.size w wa) (hgrow : wa.grownBy wb vb.ownBlock) (b1 b2 : Blk) (x1 x2 : Value × Value × Value) (hx1 : BlkS N κ wa f.blocks.length x1 b1) (hx2 : BlkS N κ wa (f.blocks.length + 1) x2 b2)
    (hown : wb.ownsRow N 45 3 (.slice (some ⟨g, 0, none⟩) (f.blocks.length + 2) cap) (f.blocks.length + 2) (((List.range f.blocks.length).flatMap fun j => c3 (bx j)) ++ (c3 x1 ++ c3 x2))) (hat : vb.ownBlock = some g ∨ g = wa.heap.size) :
    OwR N (upK κ g 4) wb ⟨f.values, f.blocks ++ [b1, b2]⟩ vv (.slice (some ⟨g, 0, none⟩) (f.blocks.length + 2) cap) (fun j => if j = f.blocks.length then x1 else if j = f.blocks.length + 1 then x2 else bx j) ∧ Only (fun r => r = 4) κ (upK κ g 4) w wb := by
  have hza := hwa.size
  have hz1 := hgrow.size
  have hgl : g < wb.heap.size := (own_base hown (g := g) rfl).2
  have hga : (g < wa.heap.size ∧ κ g = 4) ∨ wa.heap.size ≤ g := by
    rcases hat with e | e
    · exact Or.inl ⟨by have := (own_base h.ob e).2; omega, h.kb g e⟩
    · right; omega
  have hg : (g < w.heap.size ∧ κ g = 4) ∨ w.heap.size ≤ g := by
    rcases hat with e | e
    · exact Or.inl ⟨(own_base h.ob e).2, h.kb g e⟩
    · right; omega
  have ho : Only (fun r => r = 4) κ (upK κ g 4) w wb := ((Only.of_below hwa).grown hgrow fun q hq => Or.inr (h.kb q hq)).tag (upK_old hg)
  have hoa : Only (fun r => r = 4) κ (upK κ g 4) wa wb := ((Only.refl _ _ _).grown hgrow fun q hq => Or.inr (h.kb q hq)).tag (upK_old hga)
  have o1 := own_only h.ov h.kv ho (by omega)
  refine ⟨⟨o1.1, o1.2, ?_, fun q hq => ?_, fun j hj => ?_, fun b hb => ?_, fun b hb => ?_, Nat.le_trans h.szN ho.size⟩, ho⟩
  · have el : (f.blocks ++ [b1, b2]).length = f.blocks.length + 1 + 1 := by simp
    show wb.ownsRow N 45 3 _ (f.blocks ++ [b1, b2]).length ((List.range (f.blocks ++ [b1, b2]).length).flatMap _)
    rw [el]
    simp only [List.range_succ, List.flatMap_append]
    have e : ((List.range f.blocks.length).flatMap fun j => c3 (if j = f.blocks.length then x1 else if j = f.blocks.length + 1 then x2 else bx j)) = (List.range f.blocks.length).flatMap fun j => c3 (bx j) := by
      simp only [List.flatMap_def]
      congr 1
      exact List.map_congr_left fun q hq => by have := List.mem_range.1 hq; rw [if_neg (by omega), if_neg (by omega)]
    rw [e]
    have e2 : ([f.blocks.length].flatMap fun j => c3 (if j = f.blocks.length then x1 else if j = f.blocks.length + 1 then x2 else bx j)) = c3 x1 := by simp
    have e3 : ([f.blocks.length + 1].flatMap fun j => c3 (if j = f.blocks.length then x1 else if j = f.blocks.length + 1 then x2 else bx j)) = c3 x2 := by simp
    rw [e2, e3, List.append_assoc]
    exact hown
  · simp [Value.ownBlock] at hq
    simp [upK, hq]
  · have hj' : j < f.blocks.length + 2 := by simpa using hj
    by_cases e : j = f.blocks.length
    · subst e
      simp only [if_true, List.getElem_append_right (Nat.le_refl _), Nat.sub_self, List.getElem_cons_zero]
      exact hx1.only hoa (by omega) (by omega) (by omega)
    · by_cases e2 : j = f.blocks.length + 1
      · subst e2
        have e3 : (f.blocks ++ [b1, b2])[f.blocks.length + 1]'hj = b2 := by
          rw [List.getElem_append_right (by omega)]
          simp
        show BlkS N (upK κ g 4) wb (f.blocks.length + 1) (if f.blocks.length + 1 = f.blocks.length then x1 else if f.blocks.length + 1 = f.blocks.length + 1 then x2 else bx (f.blocks.length + 1)) ((f.blocks ++ [b1, b2])[f.blocks.length + 1]'hj)
        rw [e3, if_neg (by omega), if_pos rfl]
        exact hx2.only hoa (by omega) (by omega) (by omega)
      · have hjl : j < f.blocks.length := by omega
        simp only [if_neg e, if_neg e2, List.getElem_append_left hjl]
        exact (h.blk j hjl).only ho (by omega) (by omega) (by omega)
  · unfold upK
    rw [if_neg (by omega)]
    exact h.fresh b (by omega)
  · rw [ho.role b (by have := h.szN; omega)]
    exact h.lowN b hb
/-- Other edges of block c. -/
theorem OwR.setE {gb cb c : Nat} (h : OwR N κ w f vv (.slice (some ⟨gb, 0, none⟩) f.blocks.length cb) bx) (hc : c < f.blocks.length) (ve : Value) (es : List Edg) (L : List (Edg × Value)) (hL : L.map (·.1) = es) (hown : w.ownsRow N 54 2 ve L.length (L.flatMap cE)) (hLs : ∀ p ∈ L, SlK κ w 1 RInt p.2 p.1.args) (hk : ∀ g, ve.ownBlock = some g → κ g = 7 + 2 * c) :
    OwR N κ (w.setCell ⟨gb, c * 3 + 2, none⟩ ve) ⟨f.values, f.blocks.set c ⟨f.blocks[c].params, f.blocks[c].instrs, es⟩⟩ vv (.slice (some ⟨gb, 0, none⟩) f.blocks.length cb) (fun j => if j = c then ((bx j).1, (bx j).2.1, ve) else bx j) := by
  have kgb := h.kb gb rfl
  have ho : Only (fun r => r = 4) κ κ w (w.setCell ⟨gb, c * 3 + 2, none⟩ ve) := (Only.refl _ _ _).set (Or.inr kgb) _ _
  have o1 := own_only h.ov h.kv ho (by omega)
  refine ⟨o1.1, o1.2, ?_, h.kb, fun j hj => ?_, fun b hb => h.fresh b (by simpa [World.setCell] using hb), h.lowN, by simpa [World.setCell] using h.szN⟩
  · have := own_set3 h.ob (c * 3 + 2) ve
    rw [flat3_set bx _ 2 (by omega) (fun x => (x.1, x.2.1, ve)) (fun _ => rfl) c f.blocks.length hc] at this
    simp only [List.length_set]
    exact this
  · have hj2 : j < f.blocks.length := by simpa using hj
    by_cases e : j = c
    · subst e
      simp only [if_true, List.getElem_set_self]
      have hB := (h.blk j hj2).only ho (by omega) (by omega) (by omega)
      have o2 := own_only hown hk ho (by omega)
      exact ⟨hB.par, hB.ins, hB.ki, ⟨L, hL, o2.1, fun p hp => (hLs p hp).only ho (by omega)⟩, o2.2⟩
    · simp only [if_neg e]
      rw [List.getElem_set_ne (fun h => e h.symm)]
      exact (h.blk j hj2).only ho (by omega) (by omega) (by omega)
end
end Go.Proofs.Ytanhfkpphdbaaaa
namespace Go.Proofs.Ytanhfkpphdbaaaa
open Go.RowKit
set_option linter.unusedVariables false

/-- Just the block that is being laid has no edge. -/
def Bare (s : Ms) : Prop := ∀ j, j < s.f.blocks.length → j ≠ s.cur → (blkAt s j).edges ≠ []
theorem bare_sc {s : Ms} {j : Nat} : (blkAt s j).edges ≠ [] ↔ scM s j ≠ [] := by
  unfold scM
  cases (blkAt s j).edges <;> simp
theorem fork_cur {B : Nat} {s : Ms} (p : Pc) (h : Good B s) (hE : (blkAt s s.cur).edges = []) : (forkM s p).cur = s.f.blocks.length + 2 := by
  rw [forkM_eq]
  simp only
  have hc := pick2 p.c
  generalize pickedOf p.c 2 = c at *
  obtain ⟨P0, P1, F⟩ := fork_steps p h hE c hc _ _ _ _ _ _ rfl rfl rfl rfl rfl rfl
  exact F.ie
theorem ring_cur {B : Nat} {s : Ms} (p : Pc) (h : Good B s) (hE : (blkAt s s.cur).edges = []) : (ringM s p).cur = s.f.blocks.length + 2 := by
  rw [ringM_eq]
  extract_lets c rv ru rh s1 s2 p1 s3 rb ro s4 p2 t
  have hc : c = 0 ∨ c = 1 := pick2 p.c
  obtain ⟨P0, P1, F⟩ := ring_steps p p1 h hE c hc rv ru rh s1 s2 s3 rb ro _ s4 rfl rfl rfl rfl rfl rfl rfl rfl rfl rfl
  exact F.io
theorem Bare.lay {s : Ms} (h : Bare s) (p : Pc) (ok : MsOk s) : Bare (layM s p) := fun j hj hne => by
  have L := lay_lays s p ok
  rw [(L.edges ok.cur j).1]
  exact h j (by rw [← L.len]; exact hj) (by rw [← L.cur]; exact hne)
theorem Bare.step {B : Nat} {s : Ms} (h : Bare s) (hI : Inv B s) (p : Pc) : Bare (stepM s p) := by
  unfold stepM
  simp only
  split
  · intro j hj hne
    rw [(fork_good p hI.good hI.bare).2.2] at hj
    rw [fork_cur p hI.good hI.bare] at hne
    rw [bare_sc, fork_sc p hI.good hI.bare]
    unfold forkSc
    split
    · simp
    · split
      · simp
      · rw [← bare_sc]
        exact h j (by omega) (by assumption)
  · split
    · intro j hj hne
      rw [(ring_good p hI.good hI.bare).2.2] at hj
      rw [ring_cur p hI.good hI.bare] at hne
      rw [bare_sc, ring_sc p hI.good hI.bare]
      unfold ringSc
      split
      · simp
      · split
        · simp
        · split
          · simp
          · rw [← bare_sc]
            exact h j (by omega) (by assumption)
    · split
      · exact h.lay p hI.good.ok
      · exact h
theorem Bare.fold : ∀ (l : List Pc) {B : Nat} {s : Ms}, Bare s → Inv B s → Bare (l.foldl stepM s)
  | [], _, _, h, _ => h
  | p :: r, B, s, h, hI => Bare.fold r (h.step hI p) (hI.step p)
theorem end_bare (m0 m1 : Int) (h0 : 2 ≤ m0 ∧ m0 ≤ 10) (h1 : 2 ≤ m1 ∧ m1 ≤ 10) (l : List Pc) : Bare (endM m0 m1 l) ∧ 0 < (blkAt (endM m0 m1 l) (endM m0 m1 l).cur).instrs.length := by
  have hI := Inv.fold (l.take 24) (Inv.start m0 m1 h0 h1)
  have hb := Bare.fold (l.take 24) (s := (blockM ⟨m0, m1, ⟨[], []⟩, 0, []⟩ []).1) (fun j hj hne => by simp [blockM] at hj hne; omega) (Inv.start m0 m1 h0 h1)
  refine ⟨hb.lay _ hI.good.ok, ?_⟩
  unfold endM
  generalize (l.take 24).foldl stepM (blockM ⟨m0, m1, ⟨[], []⟩, 0, []⟩ []).1 = s at *
  rw [lay_atx s _ hI.good.ok.cur, if_pos (show (layM s _).cur = s.cur from rfl)]
  simp [addI]
/-- The function with an edge from many to many. -/
def manyF (f : Fn) (c : Nat) : Fn := ⟨f.values, (f.blocks ++ ([⟨[], [], [⟨((f.blocks.length + 1 : Nat) : Int), []⟩]⟩, ⟨[], [], []⟩] : List Blk)).set c ⟨(f.blocks.getD c ⟨[], [], []⟩).params, (f.blocks.getD c ⟨[], [], []⟩).instrs, [⟨((f.blocks.length : Nat) : Int), []⟩, ⟨((f.blocks.length + 1 : Nat) : Int), []⟩]⟩⟩
def manyS (s : Ms) : Ms := edgeM (edgeM (edgeM (blockM (blockM s []).1 []).1 s.f.blocks.length (s.f.blocks.length + 1) []) s.cur s.f.blocks.length []) s.cur (s.f.blocks.length + 1) []
theorem manyS_facts {B : Nat} {s : Ms} (g : Good B s) (hE : (blkAt s s.cur).edges = []) (hi : 0 < (blkAt s s.cur).instrs.length) : Good (B + 7) (manyS s) ∧ (manyS s).f = manyF s.f s.cur ∧ (manyS s).f.blocks.length = s.f.blocks.length + 2 ∧ ∀ j, blkAt (manyS s) j = if j = s.cur then ⟨(blkAt s j).params, (blkAt s j).instrs, [⟨((s.f.blocks.length : Nat) : Int), []⟩, ⟨((s.f.blocks.length + 1 : Nat) : Int), []⟩]⟩ else if j = s.f.blocks.length then ⟨[], [], [⟨((s.f.blocks.length + 1 : Nat) : Int), []⟩]⟩ else blkAt s j := by
  have hcl := g.ok.cur
  obtain ⟨n, hn⟩ : ∃ n, s.f.blocks.length = n := ⟨_, rfl⟩
  have hvals : (manyS s).f.values = s.f.values := by simp [manyS, edgeM, blockM]
  unfold manyS at hvals ⊢
  rw [hn] at hcl hvals ⊢
  have g1 := g.block [] (by simp) (by simp)
  have g2 := g1.block [] (by simp) (by simp)
  have l1 : (blockM s []).1.f.blocks.length = n + 1 := by rw [blockM_len, hn]
  have l2 : (blockM (blockM s []).1 []).1.f.blocks.length = n + 2 := by rw [blockM_len, l1]
  have at2 : ∀ j, blkAt (blockM (blockM s []).1 []).1 j = blkAt s j := fun j => by
    by_cases hj : j < n
    · rw [blockM_at _ _ _ (by omega), blockM_at _ _ _ (by omega)]
    · by_cases hj1 : j = n
      · rw [blockM_at _ _ _ (by omega), hj1]
        have := blockM_new s []
        rw [hn] at this
        rw [this, blkAt_out (by omega)]
        try rfl
      · by_cases hj2 : j = n + 1
        · have := blockM_new (blockM s []).1 []
          rw [l1] at this
          rw [hj2, this, blkAt_out (by omega)]
          try rfl
        · rw [blkAt_out (by omega), blkAt_out (by omega)]
  generalize (blockM (blockM s []).1 []).1 = t at *
  have e0 : blkAt t n = ⟨[], [], []⟩ := by rw [at2, blkAt_out (by omega)]
  have e1 : blkAt t (n + 1) = ⟨[], [], []⟩ := by rw [at2, blkAt_out (by omega)]
  have g3 := g2.edge n (n + 1) [] (by omega) (by omega) (by omega) (by rw [e1]; try rfl) (by rw [e1]; try rfl) (by rw [e0]; simp) (by rw [e0]; simp)
  have at3 := edgeM_at t n (n + 1) [] (by omega)
  have l3 : (edgeM t n (n + 1) []).f.blocks.length = n + 2 := by rw [edgeM_len, l2]
  generalize edgeM t n (n + 1) [] = t3 at *
  have c3 : blkAt t3 s.cur = blkAt s s.cur := by rw [at3, if_neg (by omega), at2]
  have g4 := g3.edge s.cur n [] (by omega) (by omega) (by omega) (by rw [at3, if_pos rfl, e0]; try rfl) (by rw [at3, if_pos rfl, e0]; try rfl) (by rw [c3, hE]; simp) (by rw [c3, hE]; simp)
  have at4 := edgeM_at t3 s.cur n [] (by omega)
  have l4 : (edgeM t3 s.cur n []).f.blocks.length = n + 2 := by rw [edgeM_len, l3]
  have v4 : (edgeM t3 s.cur n []).f.values = t3.f.values := rfl
  generalize edgeM t3 s.cur n [] = t4 at *
  have c4 : blkAt t4 s.cur = addE ⟨((n : Nat) : Int), []⟩ (blkAt s s.cur) := by rw [at4, if_pos rfl, c3]
  have g5 := g4.edge s.cur (n + 1) [] (by omega) (by omega) (by omega) (by rw [at4, if_neg (by omega), at3, if_neg (by omega), e1]; try rfl) (by rw [at4, if_neg (by omega), at3, if_neg (by omega), e1]; try rfl) (by rw [c4]; simp [addE, hE]) (by rw [c4]; intro _; simpa [addE] using hi)
  have at5 := edgeM_at t4 s.cur (n + 1) [] (by omega)
  have l5 : (edgeM t4 s.cur (n + 1) []).f.blocks.length = n + 2 := by rw [edgeM_len, l4]
  generalize edgeM t4 s.cur (n + 1) [] = t5 at *
  have hat : ∀ j, blkAt t5 j = if j = s.cur then ⟨(blkAt s j).params, (blkAt s j).instrs, [⟨((n : Nat) : Int), []⟩, ⟨((n + 1 : Nat) : Int), []⟩]⟩ else if j = n then ⟨[], [], [⟨((n + 1 : Nat) : Int), []⟩]⟩ else blkAt s j := fun j => by
    rw [at5]
    by_cases hj : j = s.cur
    · rw [if_pos hj, if_pos hj, hj, c4]
      simp [addE, hE]
    · rw [if_neg hj, if_neg hj, at4, if_neg hj, at3]
      by_cases hjn : j = n
      · rw [if_pos hjn, if_pos hjn, hjn, e0]
        rfl
      · rw [if_neg hjn, if_neg hjn, at2]
  refine ⟨g5.mono (by omega), ?_, l5, hat⟩
  have hv : t5.f.values = s.f.values := hvals
  have hb : t5.f.blocks = (manyF s.f s.cur).blocks := by
    unfold manyF
    simp only
    rw [hn]
    apply List.ext_getElem
    · rw [l5, List.length_set, List.length_append, hn]
      rfl
    · intro j h1 h2
      have hj := hat j
      rw [blkAt_eq h1] at hj
      rw [hj, List.getElem_set]
      by_cases e : j = s.cur
      · subst e
        rw [if_pos rfl, if_pos rfl]
        rfl
      · rw [if_neg e, if_neg (show ¬ s.cur = j from fun h => e h.symm)]
        by_cases hlt : j < s.f.blocks.length
        · rw [if_neg (by omega), List.getElem_append_left hlt, blkAt_eq hlt]
        · rw [List.getElem_append_right (by omega)]
          have hj2 : j = n ∨ j = n + 1 := by omega
          rcases hj2 with rfl | rfl
          · rw [if_pos rfl]
            simp [hn]
          · rw [if_neg (by omega), blkAt_out (by omega)]
            simp [hn]
  have : t5.f = ⟨t5.f.values, t5.f.blocks⟩ := rfl
  rw [this, hv, hb]
  rfl
/-- Two that differ are two. -/
theorem two_in {l : List Int} {a b : Int} (ha : a ∈ l) (hb : b ∈ l) (h : a ≠ b) : 1 < l.length := by
  match l, ha, hb with
  | [x], ha, hb => simp at ha hb; omega
  | _ :: _ :: _, _, _ => simp
theorem many_told (m0 m1 : Int) (h0 : 2 ≤ m0 ∧ m0 ≤ 10) (h1 : 2 ≤ m1 ∧ m1 ≤ 10) (l : List Pc) (hb : (masonM m0 m1 l).blocks.length + 2 ≤ 16) (K : Nat) : ∃ c, c < (masonM m0 m1 l).blocks.length ∧ ((masonM m0 m1 l).blocks.getD c ⟨[], [], []⟩).edges = [] ∧ (∀ j, j < (masonM m0 m1 l).blocks.length → j ≠ c → ((masonM m0 m1 l).blocks.getD j ⟨[], [], []⟩).edges ≠ []) ∧
    shapeErr (manyF (masonM m0 m1 l) c) m0 m1 = 0 ∧ flowE (manyF (masonM m0 m1 l) c) m0 m1 K = 11 := by
  obtain ⟨g, hE, gv, gb, gi⟩ := end_good m0 m1 h0 h1 l
  obtain ⟨D, h⟩ := end_hang m0 m1 h0 h1 l
  obtain ⟨hB, hi⟩ := end_bare m0 m1 h0 h1 l
  have hm := end_m m0 m1 l
  rw [masonM_eq] at hb ⊢
  generalize endM m0 m1 l = s at *
  obtain ⟨G, ef, hlen, hat⟩ := manyS_facts g hE hi
  have hcl := g.ok.cur
  have hmm : (manyS s).m0 = m0 ∧ (manyS s).m1 = m1 := hm
  have hsh := shape_ok G (by rw [ef]; show s.f.values.length ≤ 160; omega) (by omega) (fun j => by
    rw [hat]
    split
    · rename_i e; rw [e]; show (blkAt s s.cur).instrs.length ≤ 40; have := gi s.cur; omega
    · split
      · simp
      · have := gi j; omega)
  rw [hmm.1, hmm.2] at hsh
  have hshS := hsh
  rw [ef] at hsh
  refine ⟨s.cur, hcl, hE, hB, hsh, ?_⟩
  rw [← ef]
  have S := shape_in hshS
  have I := flowIn_all hshS
  have hsc : ∀ j, scM (manyS s) j = if j = s.cur then [s.f.blocks.length, s.f.blocks.length + 1] else if j = s.f.blocks.length then [s.f.blocks.length + 1] else scM s j := fun j => by
    unfold scM
    rw [hat]
    split
    · simp
      try omega
    · split
      · simp
        try omega
      · rfl
  have hmono : ∀ b t, t ∈ scM s b → t ∈ scM (manyS s) b := fun b t ht => by
    have hlt := h.gi.lt b t ht
    have hne : b ≠ s.cur := fun e => by unfold scM at ht; rw [e, hE] at ht; simp at ht
    rw [hsc, if_neg hne, if_neg (by omega)]
    exact ht
  have rc : Reach (scM (manyS s)) s.cur := (h.gi.reach s.cur hcl).mono hmono
  have full : (manyS s).f.blocks.length ≤ (orderM (manyS s).f.blocks).length := (order_full _ S.pos I.suc).2 fun b hb' => by
    rw [← scM_eq]
    by_cases hlt : b < s.f.blocks.length
    · exact (h.gi.reach b hlt).mono hmono
    · refine rc.step ?_
      rw [hsc, if_pos rfl]
      have : b = s.f.blocks.length ∨ b = s.f.blocks.length + 1 := by omega
      rcases this with rfl | rfl <;> simp
  have hmany : manyL (predsL (manyS s).f.blocks) (manyS s).f.blocks = true := by
    unfold manyL
    rw [List.any_eq_true]
    refine ⟨blkAt (manyS s) s.cur, blkAt_mem (by omega), ?_⟩
    unfold blkMany
    rw [hat, if_pos rfl]
    simp only [Bool.and_eq_true, decide_eq_true_eq, List.any_eq_true]
    refine ⟨by simp, ⟨((s.f.blocks.length + 1 : Nat) : Int), []⟩, by simp, ?_⟩
    unfold edgeMany
    simp only [decide_eq_true_eq, Int.toNat_natCast]
    refine two_in (a := (s.cur : Int)) (b := (s.f.blocks.length : Int)) ?_ ?_ (by omega)
    · rw [mem_preds (by omega), ← scM_eq, Int.toNat_natCast, hsc, if_pos rfl]
      exact ⟨by omega, by omega, by simp⟩
    · rw [mem_preds (by omega), ← scM_eq, Int.toNat_natCast, hsc, if_neg (by omega), if_pos rfl]
      exact ⟨by omega, by omega, by simp⟩
  unfold flowE
  rw [hshS, if_neg (by simp), if_neg (by omega), if_pos hmany]
end Go.Proofs.Ytanhfkpphdbaaaa
