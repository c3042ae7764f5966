/-
  The state of a walk by places: its box, its slots, the table of moves, and the events so far, each with a list of its own.
-/
import Derived.Test.YtjbjnndmpheedaaQ8
namespace Go.Proofs.Ytjbjnndmpheedaa
open Go.RowKit
set_option linter.unusedVariables false

def cVm (p : MEvt × Value) : List Value := [.int .i64 p.1.block, .int .i64 p.1.place, p.2, .int .i64 p.1.edge]
/-- What an event has read lies in a block of its own. -/
def RdM (w : World) (B : Nat) (ve : Value) (p : MEvt × Value) : Prop := SlOf w 1 RInt p.2 p.1.read ∧ (p.1.read = [] ∨ ∀ g, p.2.ownBlock = some g → B ≤ g ∧ g < w.heap.size ∧ some g ≠ ve.ownBlock)
/-- The table of moves: of each spot a list that lies where it lay. -/
structure MvQ (wq : World) (X G B N n : Nat) (ln : Nat → Nat) (v : Nat → Nat → Value) (g : Nat → Nat → List Mv) (w : World) : Prop where
  row : w.rowIs (N + 1) 108 n (fun b => .slice (some ⟨N + 3 + 2 * b, 0, none⟩) (ln b) (ln b))
  rows : ∀ b, b < n → w.rowIs (N + 3 + 2 * b) 49 (ln b) (fun q => v b q)
  ok : ∀ b q, b < n → q < ln b → SlOf wq 6 RMv (v b q) (g b q)
  far : ∀ q, N ≤ q → q < N + 2 + 2 * n → q ≠ X ∧ q ≠ G ∧ q < B
structure WkM (wb : World) (B X G fr : Nat) (h : Nat → Value) (N n : Nat) (ln : Nat → Nat) (v : Nat → Nat → Value) (g : Nat → Nat → List Mv) (s : Pm) (left : Int) (ve : Value) (es : List (MEvt × Value)) (w : World) : Prop where
  mw : MwS wb X G fr h s left ve w
  tb : MvQ wb X G B N n ln v g w
  own : w.ownsRow B 58 4 ve es.length (es.flatMap cVm)
  rd : ∀ p ∈ es, RdM w B ve p
  lX : X < B
  lG : G < B
  lB : B ≤ w.heap.size
theorem sl_keepM {w w' : World} {v : Value} {l : List Int} (h : SlOf w 1 RInt v l) (hn : l = [] ∨ ∀ g, v.ownBlock = some g → w'.heap[g]? = w.heap[g]?) : SlOf w' 1 RInt v l := by
  obtain ⟨a', c', hv, hl, h1⟩ := h
  refine ⟨a', c', hv, hl, ?_⟩
  rcases hn with e | hn
  · exact Or.inl e
  · refine h1.imp id ?_
    rintro ⟨b, off, ha, h2⟩
    refine ⟨b, off, ha, fun i hi => ?_⟩
    obtain ⟨cs, h3, h4, h5⟩ := h2 i hi
    have hb : w'.heap[b]? = w.heap[b]? := hn b (by rw [hv, ha]; rfl)
    exact ⟨cs, h3, h4, fun j hj => (World.cell?_of_block (a := ⟨b, off + i * 1 + j, none⟩) hb).trans (h5 j hj)⟩
theorem RdM.keep {w w' : World} {B : Nat} {ve ve' : Value} {p : MEvt × Value} (h : RdM w B ve p) (hs : w.heap.size ≤ w'.heap.size) (hb : ∀ g, B ≤ g → g < w.heap.size → some g ≠ ve.ownBlock → w'.heap[g]? = w.heap[g]? ∧ some g ≠ ve'.ownBlock) : RdM w' B ve' p := by
  obtain ⟨h1, h2⟩ := h
  refine ⟨sl_keepM h1 (h2.imp id fun h g hg => ?_), h2.imp id fun h g hg => ?_⟩
  · obtain ⟨a, b, c⟩ := h g hg
    exact (hb g a b c).1
  · obtain ⟨a, b, c⟩ := h g hg
    exact ⟨a, by omega, (hb g a b c).2⟩
theorem MvQ.blocks {wq : World} {X G B N n : Nat} {ln : Nat → Nat} {v : Nat → Nat → Value} {g : Nat → Nat → List Mv} {w w' : World} (h : MvQ wq X G B N n ln v g w) (hb : ∀ q, q < B → q ≠ X → q ≠ G → w'.heap[q]? = w.heap[q]?) : MvQ wq X G B N n ln v g w' := by
  refine ⟨h.row.of_block ?_, fun b hbn => (h.rows b hbn).of_block ?_, h.ok, h.far⟩
  · rcases Nat.eq_zero_or_pos n with e | e
    · have := h.far (N + 1) (by omega) (by omega)
      exact hb _ this.2.2 this.1 this.2.1
    · have := h.far (N + 1) (by omega) (by omega)
      exact hb _ this.2.2 this.1 this.2.1
  · have := h.far (N + 3 + 2 * b) (by omega) (by omega)
    exact hb _ this.2.2 this.1 this.2.1
section
variable {wb : World} {B X G fr : Nat} {h : Nat → Value} {N n : Nat} {ln : Nat → Nat} {v : Nat → Nat → Value} {g : Nat → Nat → List Mv} {s : Pm} {left : Int} {ve : Value} {es : List (MEvt × Value)} {w w' : World}
theorem WkM.kp {s' : Pm} {left' : Int} (k : WkM wb B X G fr h N n ln v g s left ve es w) (hm : MwS wb X G fr h s' left' ve w') (hk : Kp X G w w') : WkM wb B X G fr h N n ln v g s' left' ve es w' := by
  have lX := k.lX
  have lG := k.lG
  have lB := k.lB
  have ok : ∀ q, B ≤ q → q < w.heap.size → w'.heap[q]? = w.heap[q]? := fun q h1 h2 => hk.blk q h2 (by omega) (by omega)
  exact ⟨hm, k.tb.blocks fun q h1 h2 h3 => hk.blk q (by omega) h2 h3, own_keep k.own fun q _ hB hlt => ok q hB hlt, fun p hp => (k.rd p hp).keep hk.size fun q hB hlt hn => ⟨ok q hB hlt, hn⟩, lX, lG, Nat.le_trans lB hk.size⟩
theorem WkM.below (k : WkM wb B X G fr h N n ln v g s left ve es w) (hb : Below w.heap.size w w') : WkM wb B X G fr h N n ln v g s left ve es w' := k.kp (k.mw.below hb) (Kp.below hb)
theorem WkM.gone (k : WkM wb B X G fr h N n ln v g s left ve es w) (left' : Int) : WkM wb B X G fr h N n ln v g s left' ve es (w.setCell ⟨X, 5, none⟩ (.int .i64 left')) := k.kp (k.mw.gone left') (Kp.set (Or.inl rfl))
theorem WkM.push {vr : Value} {e : MEvt} {wa w1 : World} {q cap m : Nat} (k : WkM wb B X G fr h N n ln v g s left ve es w) (hrd : RdM w B ve (e, vr)) (hwa : Below w.heap.size w wa) (hgrow : wa.grownBy w1 ve.ownBlock) (hn : es.length = m) (hown : w1.ownsRow B 58 4 (.slice (some ⟨q, 0, none⟩) (m + 1) cap) (m + 1) (es.flatMap cVm ++ cVm (e, vr))) (hat : ve.ownBlock = some q ∨ w.heap.size ≤ q) :
    WkM wb B X G fr h N n ln v g s left (.slice (some ⟨q, 0, none⟩) (m + 1) cap) (es ++ [(e, vr)]) (w1.setCell ⟨X, 31, none⟩ (.slice (some ⟨q, 0, none⟩) (m + 1) cap)) := by
  have lX := k.lX
  have lG := k.lG
  have hX := k.mw.hX
  have lB := k.lB
  have hz := hwa.size
  have nB : ∀ p, p < B → some p ≠ ve.ownBlock := fun p hp e => by have := own_base k.own e.symm; omega
  have old : ∀ p, p < w.heap.size → some p ≠ ve.ownBlock → w1.heap[p]? = w.heap[p]? := fun p hp hn => (hgrow.block p (by omega) hn).trans (hwa.block p hp)
  have bx1 := k.mw.bx.of_block (old X k.mw.bx.lt (nB X lX))
  have sl1 := k.mw.sl.of_block (old G k.mw.sl.lt (nB G lG))
  have blk : ∀ p, B ≤ p → p < w.heap.size → some p ≠ ve.ownBlock → (w1.setCell ⟨X, 31, none⟩ (.slice (some ⟨q, 0, none⟩) (m + 1) cap)).heap[p]? = w.heap[p]? ∧ some p ≠ (Value.slice (some ⟨q, 0, none⟩) (m + 1) cap).ownBlock := fun p hp hlt hne => by
    refine ⟨(Below.heap_setCell _ _ _ _ (by show p ≠ X; omega)).trans (old p hlt hne), fun e => ?_⟩
    have e' : p = q := by simpa [Value.ownBlock] using e
    rcases hat with h1 | h1
    · exact hne (by rw [h1, e'])
    · omega
  have es1 : (w1.setCell ⟨X, 31, none⟩ (.slice (some ⟨q, 0, none⟩) (m + 1) cap)).heap.size = w1.heap.size := by simp [World.setCell]
  have hs : w.heap.size ≤ (w1.setCell ⟨X, 31, none⟩ (.slice (some ⟨q, 0, none⟩) (m + 1) cap)).heap.size := by
    have := hgrow.size
    omega
  refine ⟨⟨(bx1.set 31 _).congr fun i hi => ?_, sl1.setOther (Ne.symm k.mw.xg) _, k.mw.h28, ?_, hX, k.mw.hG, k.mw.xg⟩, k.tb.blocks fun p h1 h2 h3 => (Below.heap_setCell _ _ _ _ (by show p ≠ X; exact h2)).trans (old p (by omega) (nB p h1)), ?_, ?_, lX, lG, by omega⟩
  · unfold mwF
    by_cases e : i = 31
    · subst e
      rw [if_pos rfl, if_neg (by omega), if_neg (by omega), if_neg (by omega), if_pos rfl]
    · rw [if_neg e, if_neg e]
      simp only [if_neg e]
  · exact (((k.mw.low.trans (hwa.mono k.mw.low.size)).grown hgrow (by have := k.mw.low.size; omega) fun p hp => by have := own_base k.own hp; omega)).setCell hX _
  · rw [List.length_append, hn, List.flatMap_append]
    have e1 : [(e, vr)].flatMap cVm = cVm (e, vr) := by simp
    rw [e1]
    exact own_keep hown fun p hp hB _ => Below.heap_setCell _ _ _ _ (by show p ≠ X; omega)
  · intro p hp
    rcases List.mem_append.1 hp with h1 | h1
    · exact (k.rd p h1).keep hs blk
    · have e1 : p = (e, vr) := by simpa using h1
      rw [e1]
      exact hrd.keep hs blk
end
theorem mwF_h {h : Nat → Value} {s : Pm} {left : Int} {ve : Value} {q : Nat} (hq : q < 5) : mwF h s left ve q = h q := by
  unfold mwF
  rw [if_neg (by omega), if_neg (by omega), if_neg (by omega), if_neg (by omega)]
theorem mwF_31 {h : Nat → Value} {s : Pm} {left : Int} {ve : Value} : mwF h s left ve 31 = ve := by
  unfold mwF
  rw [if_neg (by omega), if_neg (by omega), if_neg (by omega), if_pos rfl]
/-- What holds of a function and of an output that may be. -/
structure FitsM (fr : Nat) (bs : List Blk) (pl : List (List (List Pl))) (eds : List Ed) : Prop where
  ins : ∀ b ∈ bs, b.instrs.length ≤ 1000 ∧ ∀ x ∈ b.instrs, x.operands.length ≤ 6 ∧ ∀ r ∈ x.spoils, (r.cls = 0 ∨ r.cls = 1) ∧ 0 ≤ r.n ∧ r.n < 11
  edg : ∀ b ∈ bs, b.edges.length ≤ 1000 ∧ ∀ e ∈ b.edges, 0 ≤ e.block ∧ e.block < (bs.length : Int)
  len : pl.length = bs.length
  row : ∀ (b : Nat) (blk : Blk) (rows : List (List Pl)), bs[b]? = some blk → pl[b]? = some rows → rows.length = blk.instrs.length ∧ ∀ (k : Nat) (x : Ins) (l : List Pl), blk.instrs[k]? = some x → rows[k]? = some l → l.length = x.operands.length ∧ ∀ p ∈ l, PlOk fr p
  mvs : ∀ e ∈ eds, ∀ m ∈ e.moves, PlOk fr m.src ∧ PlOk fr m.dst
theorem mvAt_ok (P : Mv → Prop) (b k : Nat) : ∀ (eds : List Ed) (acc : List Mv), (∀ e ∈ eds, ∀ m ∈ e.moves, P m) → (∀ m ∈ acc, P m) → ∀ m ∈ eds.foldl (fun acc e => if e.block = (b : Int) ∧ e.pos = (k : Int) then e.moves else acc) acc, P m
  | [], _, _, h, m, hm => h m hm
  | e :: r, acc, h1, h2, m, hm => by
    refine mvAt_ok P b k r _ (fun e he => h1 e (List.mem_cons_of_mem _ he)) ?_ m hm
    show ∀ m ∈ (if e.block = (b : Int) ∧ e.pos = (k : Int) then e.moves else acc), P m
    split
    · exact h1 e (List.mem_cons_self ..)
    · exact h2
theorem FitsM.at {fr : Nat} {bs : List Blk} {pl : List (List (List Pl))} {eds : List Ed} (h : FitsM fr bs pl eds) (b k : Nat) : ∀ m ∈ mvAt eds b k, PlOk fr m.src ∧ PlOk fr m.dst :=
  mvAt_ok (fun m => PlOk fr m.src ∧ PlOk fr m.dst) b k eds [] h.mvs (fun m hm => by cases hm)
theorem takes_bdM (seed : Int) (xs : List Ins) (ne k : Nat) (read : List Int) (hk : k + 1 = xs.length) : ne = 0 ∨ 0 ≤ takesM seed xs ne (k : Int) read ∧ takesM seed xs ne (k : Int) read < (ne : Int) := by
  by_cases h : ne = 0
  · exact Or.inl h
  · right
    unfold takesM
    rw [if_neg (by omega)]
    exact ⟨Int.emod_nonneg _ (by omega), Int.emod_lt_of_pos _ (by omega)⟩
theorem infoEvM : (Try.prog.info? 58).map (fun i => (i.zero, i.size, i.bytes)) = some (some (.agg #[.int .i64 0, .int .i64 0, .slice none 0 0, .int .i64 0]), 4, 48) := by kernel_rfl
/-- Where a block lies. -/
theorem blk_atK {w : World} {ab : Option Addr} {nb cb : Nat} {bs : List Blk} (h : SlOf w 3 (RBlk w) (.slice ab nb cb) bs) (t : Nat) (ht : t < bs.length) : ∃ b off ap cp ai ci ae ce, ab = some ⟨b, off, none⟩ ∧ b < w.heap.size ∧ w.cell? ⟨b, off + t * 3, none⟩ = some (.slice ap bs[t].params.length cp) ∧ w.cell? ⟨b, off + t * 3 + 1, none⟩ = some (.slice ai bs[t].instrs.length ci) ∧ w.cell? ⟨b, off + t * 3 + 2, none⟩ = some (.slice ae bs[t].edges.length ce) ∧ SlOf w 3 (RIns w) (.slice ai bs[t].instrs.length ci) bs[t].instrs ∧ SlOf w 2 (REdg w) (.slice ae bs[t].edges.length ce) bs[t].edges := by
  obtain ⟨b, off, cs, h1, h2, ⟨vp, vi, ve, rfl, hp, hi, he⟩, h4⟩ := h.at t ht
  obtain ⟨ap, cp, rfl, _⟩ := hp.out
  obtain ⟨ai, ci, rfl, _⟩ := hi.out
  obtain ⟨ae, ce, rfl, _⟩ := he.out
  have c0 := h4 0 (by simp)
  have c1 := h4 1 (by simp)
  have c2 := h4 2 (by simp)
  simp at c0 c1 c2
  exact ⟨b, off, ap, cp, ai, ci, ae, ce, h1, block_lt c0, c0, c1, c2, hi, he⟩
theorem ins_atK {w : World} {ai : Option Addr} {ni ci : Nat} {xs : List Ins} (h : SlOf w 3 (RIns w) (.slice ai ni ci) xs) (k : Nat) (hk : k < xs.length) : ∃ b off ao co asp csp, ai = some ⟨b, off, none⟩ ∧ b < w.heap.size ∧ w.cell? ⟨b, off + k * 3, none⟩ = some (.int .i64 xs[k].op) ∧ w.cell? ⟨b, off + k * 3 + 1, none⟩ = some (.slice ao xs[k].operands.length co) ∧ w.cell? ⟨b, off + k * 3 + 2, none⟩ = some (.slice asp xs[k].spoils.length csp) ∧ SlOf w 5 ROpr (.slice ao xs[k].operands.length co) xs[k].operands ∧ SlOf w 2 RRg (.slice asp xs[k].spoils.length csp) xs[k].spoils := by
  obtain ⟨b, off, cs, h1, h2, ⟨vo, vs, rfl, ho, hs⟩, h4⟩ := h.at k hk
  obtain ⟨ao, co, rfl, _⟩ := ho.out
  obtain ⟨asp, csp, rfl, _⟩ := hs.out
  have c0 := h4 0 (by simp)
  have c1 := h4 1 (by simp)
  have c2 := h4 2 (by simp)
  simp at c0 c1 c2
  exact ⟨b, off, ao, co, asp, csp, h1, block_lt c0, c0, c1, c2, ho, hs⟩
theorem edg_atK {w : World} {ae : Option Addr} {ne ce : Nat} {xs : List Edg} (h : SlOf w 2 (REdg w) (.slice ae ne ce) xs) (k : Nat) (hk : k < xs.length) : ∃ b off, ae = some ⟨b, off, none⟩ ∧ b < w.heap.size ∧ w.cell? ⟨b, off + k * 2, none⟩ = some (.int .i64 xs[k].block) := by
  obtain ⟨b, off, cs, h1, h2, ⟨va, rfl, ha⟩, h4⟩ := h.at k hk
  have c0 := h4 0 (by simp)
  simp at c0
  exact ⟨b, off, h1, block_lt c0, c0⟩
/-- What 'through' leaves behind. -/
def ThM (wb : World) (B X G fr : Nat) (h : Nat → Value) (N n : Nat) (ln : Nat → Nat) (v : Nat → Nat → Value) (bs : List Blk) (pl : List (List (List Pl))) (eds : List Ed) (seed : Int) (jl : List Int) (s0 : Pm) (steps t : Nat) (r : Int) (w' : World) : Prop :=
  ∃ left s ve es, WkM wb B X G fr h N n ln v (mvAt eds) s left ve es w' ∧ NxOk jl s ∧
    ((r = -1 ∧ es.map (·.1) = (mrunM bs pl eds seed jl s0 steps).evs) ∨ ∃ b' t' : Nat, r = (b' : Int) ∧ b' < bs.length ∧ t < t' ∧ t' ≤ steps ∧ left = ((steps - t' : Nat) : Int) ∧ mrunM bs pl eds seed jl s0 t' = ⟨.come b', s, es.map (·.1)⟩)
end Go.Proofs.Ytjbjnndmpheedaa
