/-
  The contract of the reference's 'SetsOf' (P3.1): rows that grow, two tables side by side.
-/
import Derived.Test.YtfelpjgagglhiaaY2
import Derived.Test.YtfelpjgagglhiaaV9
import Derived.Test.YtfelpjgagglhiaaC10
import Derived.Deep.CutBlock
import Derived.Deep.DeepCutAuto
namespace Go.Proofs.Ytfelpjgagglhiaa
open Go.RowKit
set_option linter.unusedVariables false

def upV (vs : Nat → Value) (t : Nat) (v : Value) : Nat → Value := fun i => if i = t then v else vs i
def upW (L : Nat → List Int) (t : Nat) (l : List Int) : Nat → List Int := fun i => if i = t then l else L i
/-- Two tables of rows of numbers, each row in memory of its own. -/
structure Tw (w : World) (B R1 R2 n : Nat) (vs : Nat → Value) (L : Nat → List Int) : Prop where
  r1 : w.rowIs R1 22 n vs
  r2 : w.rowIs R2 22 n (fun i => vs (n + i))
  own : ∀ i, i < n + n → w.ownsRow B 3 1 (vs i) (L i).length ((L i).flatMap cI)
  apart : ∀ i j g, i < n + n → j < n + n → i ≠ j → (vs i).ownBlock = some g → (vs j).ownBlock ≠ some g
  l1 : R1 < B
  l2 : R2 < B
  ne : R1 ≠ R2
  lB : B ≤ w.heap.size
theorem Tw.below {w w' : World} {B R1 R2 n : Nat} {vs : Nat → Value} {L : Nat → List Int} (h : Tw w B R1 R2 n vs L) (hb : Below w.heap.size w w') : Tw w' B R1 R2 n vs L :=
  ⟨h.r1.of_block (hb.block _ h.r1.lt), h.r2.of_block (hb.block _ h.r2.lt), fun i hi => own_keep (h.own i hi) fun g _ _ hg => hb.block g hg, h.apart, h.l1, h.l2, h.ne, Nat.le_trans h.lB hb.size⟩
theorem Tw.congr {w : World} {B R1 R2 n : Nat} {vs : Nat → Value} {L L' : Nat → List Int} (h : Tw w B R1 R2 n vs L) (he : ∀ i, i < n + n → L i = L' i) : Tw w B R1 R2 n vs L' :=
  ⟨h.r1, h.r2, fun i hi => by rw [← he i hi]; exact h.own i hi, h.apart, h.l1, h.l2, h.ne, h.lB⟩
theorem Tw.free {w : World} {B R1 R2 n : Nat} {vs : Nat → Value} {L : Nat → List Int} (h : Tw w B R1 R2 n vs L) {q : Nat} (hq : q < B) : ∀ j, j < n + n → (vs j).ownBlock ≠ some q := fun j hj e => by
  have := own_base (h.own j hj) e; omega
theorem Tw.push {w wa w1 : World} {B R1 R2 n t g cap R i : Nat} {a : Int} {vs : Nat → Value} {L : Nat → List Int} (h : Tw w B R1 R2 n vs L) (ht : t < n + n) (hwa : Below w.heap.size w wa) (hgrow : wa.grownBy w1 (vs t).ownBlock)
    (hown : w1.ownsRow B 3 1 (.slice (some ⟨g, 0, none⟩) ((L t).length + 1) cap) ((L t).length + 1) ((L t).flatMap cI ++ [.int .i64 a])) (hat : (vs t).ownBlock = some g ∨ w.heap.size ≤ g) (hR : (t < n ∧ R = R1 ∧ i = t) ∨ (n ≤ t ∧ R = R2 ∧ i = t - n)) :
    Tw (w1.setCell ⟨R, i, none⟩ (.slice (some ⟨g, 0, none⟩) ((L t).length + 1) cap)) B R1 R2 n (upV vs t (.slice (some ⟨g, 0, none⟩) ((L t).length + 1) cap)) (upW L t (L t ++ [a])) ∧
    ∀ q, q < w.heap.size → (∀ j, j < n + n → (vs j).ownBlock ≠ some q) → q ≠ R → (w1.setCell ⟨R, i, none⟩ (.slice (some ⟨g, 0, none⟩) ((L t).length + 1) cap)).heap[q]? = w.heap[q]? ∧ ∀ j, j < n + n → (upV vs t (.slice (some ⟨g, 0, none⟩) ((L t).length + 1) cap) j).ownBlock ≠ some q := by
  have hza := hwa.size
  have lB := h.lB
  have l1 := h.l1
  have l2 := h.l2
  have hRB : R < B := by
    rcases hR with ⟨_, e, _⟩ | ⟨_, e, _⟩
    · rw [e]; exact l1
    · rw [e]; exact l2
  have kept : ∀ b, b < w.heap.size → some b ≠ (vs t).ownBlock → w1.heap[b]? = w.heap[b]? := fun b hb hne => (hgrow.block b (by omega) hne).trans (hwa.block b hb)
  have hst : ∀ (b : Nat), b ≠ R → (w1.setCell ⟨R, i, none⟩ (.slice (some ⟨g, 0, none⟩) ((L t).length + 1) cap)).heap[b]? = w1.heap[b]? := fun b hb => Below.heap_setCell _ _ _ _ hb
  have newg : ∀ j, j < n + n → j ≠ t → (vs j).ownBlock ≠ some g := by
    intro j hj hjt e
    rcases hat with h1 | h1
    · exact h.apart t j g ht hj (fun e => hjt e.symm) h1 e
    · have := own_base (h.own j hj) e; omega
  have hlow : ∀ q, q < B → some q ≠ (vs t).ownBlock := fun q hq e => h.free hq t ht e.symm
  have k1 := h.r1.of_block (kept R1 h.r1.lt (hlow _ l1))
  have k2 := h.r2.of_block (kept R2 h.r2.lt (hlow _ l2))
  refine ⟨⟨?_, ?_, fun k hk => ?_, fun k j g' hk hj hkj hg => ?_, l1, l2, h.ne, ?_⟩, fun q hq hfr hqR => ⟨?_, fun j hj => ?_⟩⟩
  · rcases hR with ⟨htn, rfl, rfl⟩ | ⟨htn, rfl, rfl⟩
    · exact k1.set i _
    · refine (k1.setOther (a := ⟨R, t - n, none⟩) h.ne _).congr fun k hk => ?_
      unfold upV
      rw [if_neg (by omega)]
  · rcases hR with ⟨htn, rfl, rfl⟩ | ⟨htn, rfl, rfl⟩
    · refine (k2.setOther (a := ⟨R, i, none⟩) (Ne.symm h.ne) _).congr fun k hk => ?_
      unfold upV
      rw [if_neg (by omega)]
    · refine (k2.set (t - n) _).congr fun k hk => ?_
      unfold upV
      by_cases e : k = t - n
      · rw [if_pos e, if_pos (by omega)]
      · rw [if_neg e, if_neg (by omega)]
  · unfold upV upW
    by_cases e : k = t
    · subst e
      rw [if_pos rfl, if_pos rfl, List.length_append, List.length_singleton, List.flatMap_append]
      refine own_keep hown fun b hb h1 h2 => hst b (by omega)
    · rw [if_neg e, if_neg e]
      refine own_keep (h.own k hk) fun b hb h1 h2 => (hst b (by omega)).trans (kept b h2 fun e2 => ?_)
      exact h.apart k t b hk ht e hb e2.symm
  · unfold upV at hg ⊢
    by_cases e : k = t
    · rw [if_pos e] at hg
      rw [if_neg (by omega)]
      simp [Value.ownBlock] at hg
      subst hg
      exact newg j hj (by omega)
    · rw [if_neg e] at hg
      by_cases e2 : j = t
      · rw [if_pos e2]
        intro e3
        simp [Value.ownBlock] at e3
        subst e3
        exact newg k hk e hg
      · rw [if_neg e2]
        exact h.apart k j g' hk hj hkj hg
  · have hs : (w1.setCell ⟨R, i, none⟩ (.slice (some ⟨g, 0, none⟩) ((L t).length + 1) cap)).heap.size = w1.heap.size := by simp [World.setCell]
    have := hgrow.size
    omega
  · exact (hst q hqR).trans (kept q hq fun e => hfr t ht e.symm)
  · unfold upV
    by_cases e : j = t
    · rw [if_pos e]
      intro e3
      simp [Value.ownBlock] at e3
      subst e3
      rcases hat with h1 | h1
      · exact hfr t ht h1
      · omega
    · rw [if_neg e]
      exact hfr j hj
theorem Tw.sl {w : World} {B R1 R2 n : Nat} {vs : Nat → Value} {L : Nat → List Int} (h : Tw w B R1 R2 n vs L) (hn : n ≤ 1000) (hL : ∀ i, i < n + n → (L i).length ≤ longest) : SlOf w 1 (RRow w) (.slice (some ⟨R1, 0, none⟩) n n) ((List.range n).map L) ∧ SlOf w 1 (RRow w) (.slice (some ⟨R2, 0, none⟩) n n) ((List.range n).map fun i => L (n + i)) := by
  constructor
  · refine ⟨_, n, by simp, by simp; unfold longest; omega, Or.inr ⟨R1, 0, rfl, fun i hi => ?_⟩⟩
    have hi' : i < n := by simpa using hi
    refine ⟨[vs i], rfl, ⟨vs i, rfl, ?_⟩, fun j hj => ?_⟩
    · rw [List.getElem_map, List.getElem_range]
      exact own_ints _ (h.own i (by omega)) (hL i (by omega))
    · have : j = 0 := by simp at hj; exact hj
      subst this
      simp only [Nat.mul_one, Nat.add_zero, Nat.zero_add, List.getElem_cons_zero]
      exact h.r1.cell hi'
  · refine ⟨_, n, by simp, by simp; unfold longest; omega, Or.inr ⟨R2, 0, rfl, fun i hi => ?_⟩⟩
    have hi' : i < n := by simpa using hi
    refine ⟨[vs (n + i)], rfl, ⟨vs (n + i), rfl, ?_⟩, fun j hj => ?_⟩
    · rw [List.getElem_map, List.getElem_range]
      exact own_ints _ (h.own (n + i) (by omega)) (hL (n + i) (by omega))
    · have : j = 0 := by simp at hj; exact hj
      subst this
      simp only [Nat.mul_one, Nat.add_zero, Nat.zero_add, List.getElem_cons_zero]
      exact h.r2.cell hi'
theorem rowL_succ (k : Nat) (r : Nat → Bool) : rowL (k + 1) r = if r k = true then rowL k r ++ [(k : Int)] else rowL k r := by
  unfold rowL
  rw [List.range_succ, List.filter_append, List.map_append]
  by_cases h : r k = true
  · rw [if_pos h]; simp [h]
  · rw [if_neg h]; simp [h]
/-- The rows when k values are through, and of number k the blocks ahead of b. -/
def LL (n : Nat) (I O : Tb) (k b : Nat) : Nat → List Int := fun i => if i < n then rowL (if i < b then k + 1 else k) (I i) else rowL (if i - n < b then k + 1 else k) (O (i - n))
theorem LL_next (n : Nat) (I O : Tb) (k i : Nat) (hi : i < n + n) : LL n I O k n i = LL n I O (k + 1) 0 i := by
  unfold LL
  by_cases h : i < n
  · rw [if_pos h, if_pos h, if_pos h, if_neg (by omega)]
  · rw [if_neg h, if_neg h, if_pos (by omega), if_neg (by omega)]
theorem LL_step (n : Nat) (I O : Tb) (k b i : Nat) (hb : b < n) : upW (upW (LL n I O k b) b (rowL (k + 1) (I b))) (n + b) (rowL (k + 1) (O b)) i = LL n I O k (b + 1) i := by
  unfold upW LL
  by_cases e : i = n + b
  · subst e
    rw [if_pos rfl, if_neg (by omega), if_pos (by omega), show n + b - n = b by omega]
  · rw [if_neg e]
    by_cases e2 : i = b
    · subst e2
      rw [if_pos rfl, if_pos hb, if_pos (by omega)]
    · rw [if_neg e2]
      by_cases h : i < n
      · rw [if_pos h, if_pos h]
        by_cases h2 : i < b
        · rw [if_pos h2, if_pos (by omega)]
        · rw [if_neg h2, if_neg (by omega)]
      · rw [if_neg h, if_neg h]
        by_cases h2 : i - n < b
        · rw [if_pos h2, if_pos (by omega)]
        · rw [if_neg h2, if_neg (by omega)]
theorem rowL_few (k : Nat) (r : Nat → Bool) : (rowL k r).length ≤ k := by
  unfold rowL
  rw [List.length_map]
  exact Nat.le_trans (List.length_filter_le _ _) (by simp)
theorem LL_few (n : Nat) (I O : Tb) (k b i : Nat) : (LL n I O k b i).length ≤ k + 1 := by
  unfold LL
  split
  · refine Nat.le_trans (rowL_few _ _) ?_
    split <;> omega
  · refine Nat.le_trans (rowL_few _ _) ?_
    split <;> omega
theorem LL_b (n : Nat) (I O : Tb) (k b : Nat) (hb : b < n) : LL n I O k b b = rowL k (I b) := by
  unfold LL
  rw [if_pos hb, if_neg (by omega)]
theorem LL_nb (n : Nat) (I O : Tb) (k b : Nat) (x : List Int) (hb : b < n) : upW (LL n I O k b) b x (n + b) = rowL k (O b) := by
  unfold upW LL
  rw [if_neg (by omega), if_neg (by omega), if_neg (by omega), show n + b - n = b by omega]

/-- The state of 'SetsOf': the function's box, the answer's, the sets', and the tables. -/
structure SoS (w0 : World) (N X B R1 R2 n : Nat) (vv vb : Value) (vs : Nat → Value) (L : Nat → List Int) (w : World) : Prop where
  t : Tw w B R1 R2 n vs L
  bx : w.rowIs N 25 2 (fun q => if q = 0 then vv else vb)
  rs : w.rowIs (N + 1 + 1) 31 2 (fun _ => .slice none 0 0)
  sx : w.rowIs X 31 2 (fun q => if q = 0 then .slice (some ⟨R1, 0, none⟩) n n else .slice (some ⟨R2, 0, none⟩) n n)
  low : Below N w0 w
  dN : N + 1 + 1 < X ∧ N + 1 + 1 < R1 ∧ N + 1 + 1 < R2 ∧ X ≠ R1 ∧ X ≠ R2 ∧ X < B
theorem SoS.below {w0 : World} {N X B R1 R2 n : Nat} {vv vb : Value} {vs : Nat → Value} {L : Nat → List Int} {w w' : World} (h : SoS w0 N X B R1 R2 n vv vb vs L w) (hb : Below w.heap.size w w') : SoS w0 N X B R1 R2 n vv vb vs L w' :=
  ⟨h.t.below hb, h.bx.of_block (hb.block _ h.bx.lt), h.rs.of_block (hb.block _ h.rs.lt), h.sx.of_block (hb.block _ h.sx.lt), h.low.trans (hb.mono (Nat.le_of_lt h.bx.lt)), h.dN⟩
theorem SoS.congr {w0 : World} {N X B R1 R2 n : Nat} {vv vb : Value} {vs : Nat → Value} {L L' : Nat → List Int} {w : World} (h : SoS w0 N X B R1 R2 n vv vb vs L w) (he : ∀ i, i < n + n → L i = L' i) : SoS w0 N X B R1 R2 n vv vb vs L' w := ⟨h.t.congr he, h.bx, h.rs, h.sx, h.low, h.dN⟩
theorem SoS.push {w0 : World} {N X B R1 R2 n : Nat} {vv vb : Value} {vs : Nat → Value} {L : Nat → List Int} {w wa w1 : World} {t g cap R i : Nat} {a : Int} (h : SoS w0 N X B R1 R2 n vv vb vs L w) (ht : t < n + n) (hwa : Below w.heap.size w wa) (hgrow : wa.grownBy w1 (vs t).ownBlock)
    (hown : w1.ownsRow B 3 1 (.slice (some ⟨g, 0, none⟩) ((L t).length + 1) cap) ((L t).length + 1) ((L t).flatMap cI ++ [.int .i64 a])) (hat : (vs t).ownBlock = some g ∨ w.heap.size ≤ g) (hR : (t < n ∧ R = R1 ∧ i = t) ∨ (n ≤ t ∧ R = R2 ∧ i = t - n)) :
    SoS w0 N X B R1 R2 n vv vb (upV vs t (.slice (some ⟨g, 0, none⟩) ((L t).length + 1) cap)) (upW L t (L t ++ [a])) (w1.setCell ⟨R, i, none⟩ (.slice (some ⟨g, 0, none⟩) ((L t).length + 1) cap)) ∧
    ∀ q, q < w.heap.size → (∀ j, j < n + n → (vs j).ownBlock ≠ some q) → q ≠ R → (w1.setCell ⟨R, i, none⟩ (.slice (some ⟨g, 0, none⟩) ((L t).length + 1) cap)).heap[q]? = w.heap[q]? ∧ ∀ j, j < n + n → (upV vs t (.slice (some ⟨g, 0, none⟩) ((L t).length + 1) cap) j).ownBlock ≠ some q := by
  obtain ⟨p1, p2⟩ := h.t.push ht hwa hgrow hown hat hR
  obtain ⟨d1, d2, d3, d4, d5, d6⟩ := h.dN
  have lB := h.t.lB
  have hRR : R = R1 ∨ R = R2 := by rcases hR with ⟨_, e, _⟩ | ⟨_, e, _⟩; exact Or.inl e; exact Or.inr e
  have kp : ∀ q, q < B → q ≠ R1 → q ≠ R2 → (w1.setCell ⟨R, i, none⟩ (.slice (some ⟨g, 0, none⟩) ((L t).length + 1) cap)).heap[q]? = w.heap[q]? := fun q hq h1 h2 => (p2 q (by omega) (h.t.free hq) (by rcases hRR with e | e <;> rw [e] <;> assumption)).1
  refine ⟨⟨p1, h.bx.of_block (kp N (by omega) (by omega) (by omega)), h.rs.of_block (kp _ (by omega) (by omega) (by omega)), h.sx.of_block (kp X d6 d4 d5), ?_, h.dN⟩, p2⟩
  have hN := Nat.le_of_lt h.bx.lt
  exact ((h.low.trans (hwa.mono hN)).grown hgrow (by have := hwa.size; omega) fun q hq => by have := own_base (h.t.own t ht) hq; omega).setCell (show N ≤ R by rcases hRR with e | e <;> omega) _

theorem Tw.keep {w w' : World} {B R1 R2 n q : Nat} {vs : Nat → Value} {L : Nat → List Int} (h : Tw w B R1 R2 n vs L) (hk : ∀ b, b ≠ q → w'.heap[b]? = w.heap[b]?) (hq : q < B) (q1 : q ≠ R1) (q2 : q ≠ R2) (hs : w.heap.size ≤ w'.heap.size) : Tw w' B R1 R2 n vs L :=
  ⟨h.r1.of_block (hk _ (Ne.symm q1)), h.r2.of_block (hk _ (Ne.symm q2)), fun i hi => own_keep (h.own i hi) fun g hg hB _ => hk g (by omega), h.apart, h.l1, h.l2, h.ne, Nat.le_trans h.lB hs⟩
theorem outB {bs : List Blk} {nv k b : Nat} {I O : Tb} {R : Nat → Bool} (hT : Told3 bs nv I O) (hk : k < nv) (hb : b < bs.length) (hR : ∀ t, t < bs.length → (R t = true ↔ NeedIn bs t k)) (hrg : ∀ t, t ∈ succM bs b → t < bs.length) : ((bs[b].edges.any fun e => R e.block.toNat) || decide ((k : Int) ∈ argsU bs[b].edges)) = O b k := by
  rw [Bool.eq_iff_iff, hT.2 b k hk, Bool.or_eq_true, decide_eq_true_iff]
  unfold NeedOut
  rw [blkA_at hb]
  constructor
  · rintro (h | h)
    · obtain ⟨t, ht, hr⟩ := any_succ hb h
      exact ⟨hb, Or.inr ⟨t, ht, (hR t (hrg t ht)).1 hr⟩⟩
    · exact ⟨hb, Or.inl h⟩
  · rintro ⟨_, h | ⟨t, ht, hn⟩⟩
    · exact Or.inr h
    · exact Or.inl (succ_any hb ⟨t, ht, (hR t (hrg t ht)).2 hn⟩)
theorem so_st0 (w : World) (a b : Obj) (n r1 r2 : Nat) : (((w.alloc (.cells #[.slice (some ⟨r1, 0, none⟩) n n, .slice (some ⟨r2, 0, none⟩) n n] 31)).alloc a).alloc b).drew.rowIs w.heap.size 31 2 (fun q => if q = 0 then .slice (some ⟨r1, 0, none⟩) n n else .slice (some ⟨r2, 0, none⟩) n n) := by
  have h := World.rowIs_alloc w #[.slice (some ⟨r1, 0, none⟩) n n, .slice (some ⟨r2, 0, none⟩) n n] 31 (fun q => if q = 0 then .slice (some ⟨r1, 0, none⟩) n n else .slice (some ⟨r2, 0, none⟩) n n) fun i hi => by
    simp at hi
    match i, hi with | 0, _ => rfl | 1, _ => rfl
  exact ((h.alloc a).alloc b).drew
theorem so_st1 (w : World) (a b : Obj) (n r1 r2 : Nat) : (((w.alloc a).alloc (.cells #[.slice (some ⟨r1, 0, none⟩) n n, .slice (some ⟨r2, 0, none⟩) n n] 31)).alloc b).drew.rowIs (w.heap.size + 1) 31 2 (fun q => if q = 0 then .slice (some ⟨r1, 0, none⟩) n n else .slice (some ⟨r2, 0, none⟩) n n) := by
  have h := so_st0 (w.alloc a) b (.cells #[] 0) n r1 r2
  have e : (w.alloc a).heap.size = w.heap.size + 1 := by simp
  have h2 := World.rowIs_alloc (w.alloc a) #[.slice (some ⟨r1, 0, none⟩) n n, .slice (some ⟨r2, 0, none⟩) n n] 31 (fun q => if q = 0 then .slice (some ⟨r1, 0, none⟩) n n else .slice (some ⟨r2, 0, none⟩) n n) fun i hi => by
    simp at hi
    match i, hi with | 0, _ => rfl | 1, _ => rfl
  rw [e] at h2
  exact (h2.alloc b).drew
theorem so_st2 (w : World) (a b : Obj) (n r1 r2 : Nat) : (((w.alloc a).alloc b).alloc (.cells #[.slice (some ⟨r1, 0, none⟩) n n, .slice (some ⟨r2, 0, none⟩) n n] 31)).drew.rowIs (w.heap.size + 1 + 1) 31 2 (fun q => if q = 0 then .slice (some ⟨r1, 0, none⟩) n n else .slice (some ⟨r2, 0, none⟩) n n) := by
  have e : ((w.alloc a).alloc b).heap.size = w.heap.size + 1 + 1 := by simp
  have h2 := World.rowIs_alloc ((w.alloc a).alloc b) #[.slice (some ⟨r1, 0, none⟩) n n, .slice (some ⟨r2, 0, none⟩) n n] 31 (fun q => if q = 0 then .slice (some ⟨r1, 0, none⟩) n n else .slice (some ⟨r2, 0, none⟩) n n) fun i hi => by
    simp at hi
    match i, hi with | 0, _ => rfl | 1, _ => rfl
  rw [e] at h2
  exact h2.drew
theorem so_mk0 (w : World) (a b : Obj) (n : Nat) : (((w.alloc (.cells (madeCells #[.slice none 0 0] n) 22)).alloc a).alloc b).drew.rowIs w.heap.size 22 n (fun _ => .slice none 0 0) := (((World.rowIs_made w (.slice none 0 0) n 22).alloc a).alloc b).drew
theorem so_mk1 (w : World) (a b : Obj) (n : Nat) : (((w.alloc a).alloc (.cells (madeCells #[.slice none 0 0] n) 22)).alloc b).drew.rowIs (w.heap.size + 1) 22 n (fun _ => .slice none 0 0) := by
  have e : (w.alloc a).heap.size = w.heap.size + 1 := by simp
  have h := World.rowIs_made (w.alloc a) (.slice none 0 0) n 22
  rw [e] at h
  exact (h.alloc b).drew
theorem so_mk2 (w : World) (a b : Obj) (n : Nat) : (((w.alloc a).alloc b).alloc (.cells (madeCells #[.slice none 0 0] n) 22)).drew.rowIs (w.heap.size + 1 + 1) 22 n (fun _ => .slice none 0 0) := by
  have e : ((w.alloc a).alloc b).heap.size = w.heap.size + 1 + 1 := by simp
  have h := World.rowIs_made ((w.alloc a).alloc b) (.slice none 0 0) n 22
  rw [e] at h
  exact h.drew
theorem setBeg (w1 wz : World) (n X R1 R2 : Nat) (hx : wz.rowIs X 31 2 (fun q => if q = 0 then .slice (some ⟨R1, 0, none⟩) n n else .slice (some ⟨R2, 0, none⟩) n n)) (h1 : wz.rowIs R1 22 n (fun _ => .slice none 0 0)) (h2 : wz.rowIs R2 22 n (fun _ => .slice none 0 0)) (d1 : X ≠ R1) (d2 : X ≠ R2) (d3 : R1 ≠ R2) (l1 : w1.heap.size ≤ X) (l2 : w1.heap.size ≤ R1) (l3 : w1.heap.size ≤ R2) (hb : Below w1.heap.size w1 wz) : ∃ X' R1' R2', Value.pointer (some ⟨X, 0, none⟩) = .pointer (some ⟨X', 0, none⟩) ∧ wz.rowIs X' 31 2 (fun q => if q = 0 then .slice (some ⟨R1', 0, none⟩) n n else .slice (some ⟨R2', 0, none⟩) n n) ∧ wz.rowIs R1' 22 n (fun _ => .slice none 0 0) ∧ wz.rowIs R2' 22 n (fun _ => .slice none 0 0) ∧ X' ≠ R1' ∧ X' ≠ R2' ∧ R1' ≠ R2' ∧ w1.heap.size ≤ X' ∧ w1.heap.size ≤ R1' ∧ w1.heap.size ≤ R2' ∧ Below w1.heap.size w1 wz :=
  ⟨X, R1, R2, rfl, hx, h1, h2, d1, d2, d3, l1, l2, l3, hb⟩
theorem so_low (w : World) (a b c : Obj) : Below w.heap.size w (((w.alloc a).alloc b).alloc c).drew := ((((Below.refl _ _).alloc (Nat.le_refl _) _).alloc (by simp) _).alloc (by simp; omega) _).drew
theorem so_fin0 (w1 : World) (n : Nat) : ∃ X R1 R2, Value.pointer (some ⟨w1.heap.size + 1 + 1, 0, none⟩) = .pointer (some ⟨X, 0, none⟩) ∧ (((w1.alloc (.cells (madeCells #[.slice none 0 0] n) 22)).alloc (.cells (madeCells #[.slice none 0 0] n) 22)).alloc (.cells #[.slice (some ⟨w1.heap.size, 0, none⟩) n n, .slice (some ⟨w1.heap.size + 1, 0, none⟩) n n] 31)).drew.rowIs X 31 2 (fun q => if q = 0 then .slice (some ⟨R1, 0, none⟩) n n else .slice (some ⟨R2, 0, none⟩) n n) ∧ (((w1.alloc (.cells (madeCells #[.slice none 0 0] n) 22)).alloc (.cells (madeCells #[.slice none 0 0] n) 22)).alloc (.cells #[.slice (some ⟨w1.heap.size, 0, none⟩) n n, .slice (some ⟨w1.heap.size + 1, 0, none⟩) n n] 31)).drew.rowIs R1 22 n (fun _ => .slice none 0 0) ∧ (((w1.alloc (.cells (madeCells #[.slice none 0 0] n) 22)).alloc (.cells (madeCells #[.slice none 0 0] n) 22)).alloc (.cells #[.slice (some ⟨w1.heap.size, 0, none⟩) n n, .slice (some ⟨w1.heap.size + 1, 0, none⟩) n n] 31)).drew.rowIs R2 22 n (fun _ => .slice none 0 0) ∧ X ≠ R1 ∧ X ≠ R2 ∧ R1 ≠ R2 ∧ w1.heap.size ≤ X ∧ w1.heap.size ≤ R1 ∧ w1.heap.size ≤ R2 ∧ Below w1.heap.size w1 (((w1.alloc (.cells (madeCells #[.slice none 0 0] n) 22)).alloc (.cells (madeCells #[.slice none 0 0] n) 22)).alloc (.cells #[.slice (some ⟨w1.heap.size, 0, none⟩) n n, .slice (some ⟨w1.heap.size + 1, 0, none⟩) n n] 31)).drew := by
  refine setBeg w1 _ n _ _ _ (so_st2 _ _ _ _ _ _) (so_mk0 _ _ _ _) (so_mk1 _ _ _ _) ?_ ?_ ?_ ?_ ?_ ?_ (so_low _ _ _ _)
  all_goals omega
theorem so_fin1 (w1 : World) (n : Nat) : ∃ X R1 R2, Value.pointer (some ⟨w1.heap.size + 1 + 1, 0, none⟩) = .pointer (some ⟨X, 0, none⟩) ∧ (((w1.alloc (.cells (madeCells #[.slice none 0 0] n) 22)).alloc (.cells (madeCells #[.slice none 0 0] n) 22)).alloc (.cells #[.slice (some ⟨w1.heap.size + 1, 0, none⟩) n n, .slice (some ⟨w1.heap.size, 0, none⟩) n n] 31)).drew.rowIs X 31 2 (fun q => if q = 0 then .slice (some ⟨R1, 0, none⟩) n n else .slice (some ⟨R2, 0, none⟩) n n) ∧ (((w1.alloc (.cells (madeCells #[.slice none 0 0] n) 22)).alloc (.cells (madeCells #[.slice none 0 0] n) 22)).alloc (.cells #[.slice (some ⟨w1.heap.size + 1, 0, none⟩) n n, .slice (some ⟨w1.heap.size, 0, none⟩) n n] 31)).drew.rowIs R1 22 n (fun _ => .slice none 0 0) ∧ (((w1.alloc (.cells (madeCells #[.slice none 0 0] n) 22)).alloc (.cells (madeCells #[.slice none 0 0] n) 22)).alloc (.cells #[.slice (some ⟨w1.heap.size + 1, 0, none⟩) n n, .slice (some ⟨w1.heap.size, 0, none⟩) n n] 31)).drew.rowIs R2 22 n (fun _ => .slice none 0 0) ∧ X ≠ R1 ∧ X ≠ R2 ∧ R1 ≠ R2 ∧ w1.heap.size ≤ X ∧ w1.heap.size ≤ R1 ∧ w1.heap.size ≤ R2 ∧ Below w1.heap.size w1 (((w1.alloc (.cells (madeCells #[.slice none 0 0] n) 22)).alloc (.cells (madeCells #[.slice none 0 0] n) 22)).alloc (.cells #[.slice (some ⟨w1.heap.size + 1, 0, none⟩) n n, .slice (some ⟨w1.heap.size, 0, none⟩) n n] 31)).drew := by
  refine setBeg w1 _ n _ _ _ (so_st2 _ _ _ _ _ _) (so_mk1 _ _ _ _) (so_mk0 _ _ _ _) ?_ ?_ ?_ ?_ ?_ ?_ (so_low _ _ _ _)
  all_goals omega
theorem so_fin2 (w1 : World) (n : Nat) : ∃ X R1 R2, Value.pointer (some ⟨w1.heap.size + 1, 0, none⟩) = .pointer (some ⟨X, 0, none⟩) ∧ (((w1.alloc (.cells (madeCells #[.slice none 0 0] n) 22)).alloc (.cells #[.slice (some ⟨w1.heap.size, 0, none⟩) n n, .slice (some ⟨w1.heap.size + 1 + 1, 0, none⟩) n n] 31)).alloc (.cells (madeCells #[.slice none 0 0] n) 22)).drew.rowIs X 31 2 (fun q => if q = 0 then .slice (some ⟨R1, 0, none⟩) n n else .slice (some ⟨R2, 0, none⟩) n n) ∧ (((w1.alloc (.cells (madeCells #[.slice none 0 0] n) 22)).alloc (.cells #[.slice (some ⟨w1.heap.size, 0, none⟩) n n, .slice (some ⟨w1.heap.size + 1 + 1, 0, none⟩) n n] 31)).alloc (.cells (madeCells #[.slice none 0 0] n) 22)).drew.rowIs R1 22 n (fun _ => .slice none 0 0) ∧ (((w1.alloc (.cells (madeCells #[.slice none 0 0] n) 22)).alloc (.cells #[.slice (some ⟨w1.heap.size, 0, none⟩) n n, .slice (some ⟨w1.heap.size + 1 + 1, 0, none⟩) n n] 31)).alloc (.cells (madeCells #[.slice none 0 0] n) 22)).drew.rowIs R2 22 n (fun _ => .slice none 0 0) ∧ X ≠ R1 ∧ X ≠ R2 ∧ R1 ≠ R2 ∧ w1.heap.size ≤ X ∧ w1.heap.size ≤ R1 ∧ w1.heap.size ≤ R2 ∧ Below w1.heap.size w1 (((w1.alloc (.cells (madeCells #[.slice none 0 0] n) 22)).alloc (.cells #[.slice (some ⟨w1.heap.size, 0, none⟩) n n, .slice (some ⟨w1.heap.size + 1 + 1, 0, none⟩) n n] 31)).alloc (.cells (madeCells #[.slice none 0 0] n) 22)).drew := by
  refine setBeg w1 _ n _ _ _ (so_st1 _ _ _ _ _ _) (so_mk0 _ _ _ _) (so_mk2 _ _ _ _) ?_ ?_ ?_ ?_ ?_ ?_ (so_low _ _ _ _)
  all_goals omega
theorem so_fin3 (w1 : World) (n : Nat) : ∃ X R1 R2, Value.pointer (some ⟨w1.heap.size + 1, 0, none⟩) = .pointer (some ⟨X, 0, none⟩) ∧ (((w1.alloc (.cells (madeCells #[.slice none 0 0] n) 22)).alloc (.cells #[.slice (some ⟨w1.heap.size + 1 + 1, 0, none⟩) n n, .slice (some ⟨w1.heap.size, 0, none⟩) n n] 31)).alloc (.cells (madeCells #[.slice none 0 0] n) 22)).drew.rowIs X 31 2 (fun q => if q = 0 then .slice (some ⟨R1, 0, none⟩) n n else .slice (some ⟨R2, 0, none⟩) n n) ∧ (((w1.alloc (.cells (madeCells #[.slice none 0 0] n) 22)).alloc (.cells #[.slice (some ⟨w1.heap.size + 1 + 1, 0, none⟩) n n, .slice (some ⟨w1.heap.size, 0, none⟩) n n] 31)).alloc (.cells (madeCells #[.slice none 0 0] n) 22)).drew.rowIs R1 22 n (fun _ => .slice none 0 0) ∧ (((w1.alloc (.cells (madeCells #[.slice none 0 0] n) 22)).alloc (.cells #[.slice (some ⟨w1.heap.size + 1 + 1, 0, none⟩) n n, .slice (some ⟨w1.heap.size, 0, none⟩) n n] 31)).alloc (.cells (madeCells #[.slice none 0 0] n) 22)).drew.rowIs R2 22 n (fun _ => .slice none 0 0) ∧ X ≠ R1 ∧ X ≠ R2 ∧ R1 ≠ R2 ∧ w1.heap.size ≤ X ∧ w1.heap.size ≤ R1 ∧ w1.heap.size ≤ R2 ∧ Below w1.heap.size w1 (((w1.alloc (.cells (madeCells #[.slice none 0 0] n) 22)).alloc (.cells #[.slice (some ⟨w1.heap.size + 1 + 1, 0, none⟩) n n, .slice (some ⟨w1.heap.size, 0, none⟩) n n] 31)).alloc (.cells (madeCells #[.slice none 0 0] n) 22)).drew := by
  refine setBeg w1 _ n _ _ _ (so_st1 _ _ _ _ _ _) (so_mk2 _ _ _ _) (so_mk0 _ _ _ _) ?_ ?_ ?_ ?_ ?_ ?_ (so_low _ _ _ _)
  all_goals omega
theorem so_fin4 (w1 : World) (n : Nat) : ∃ X R1 R2, Value.pointer (some ⟨w1.heap.size, 0, none⟩) = .pointer (some ⟨X, 0, none⟩) ∧ (((w1.alloc (.cells #[.slice (some ⟨w1.heap.size + 1, 0, none⟩) n n, .slice (some ⟨w1.heap.size + 1 + 1, 0, none⟩) n n] 31)).alloc (.cells (madeCells #[.slice none 0 0] n) 22)).alloc (.cells (madeCells #[.slice none 0 0] n) 22)).drew.rowIs X 31 2 (fun q => if q = 0 then .slice (some ⟨R1, 0, none⟩) n n else .slice (some ⟨R2, 0, none⟩) n n) ∧ (((w1.alloc (.cells #[.slice (some ⟨w1.heap.size + 1, 0, none⟩) n n, .slice (some ⟨w1.heap.size + 1 + 1, 0, none⟩) n n] 31)).alloc (.cells (madeCells #[.slice none 0 0] n) 22)).alloc (.cells (madeCells #[.slice none 0 0] n) 22)).drew.rowIs R1 22 n (fun _ => .slice none 0 0) ∧ (((w1.alloc (.cells #[.slice (some ⟨w1.heap.size + 1, 0, none⟩) n n, .slice (some ⟨w1.heap.size + 1 + 1, 0, none⟩) n n] 31)).alloc (.cells (madeCells #[.slice none 0 0] n) 22)).alloc (.cells (madeCells #[.slice none 0 0] n) 22)).drew.rowIs R2 22 n (fun _ => .slice none 0 0) ∧ X ≠ R1 ∧ X ≠ R2 ∧ R1 ≠ R2 ∧ w1.heap.size ≤ X ∧ w1.heap.size ≤ R1 ∧ w1.heap.size ≤ R2 ∧ Below w1.heap.size w1 (((w1.alloc (.cells #[.slice (some ⟨w1.heap.size + 1, 0, none⟩) n n, .slice (some ⟨w1.heap.size + 1 + 1, 0, none⟩) n n] 31)).alloc (.cells (madeCells #[.slice none 0 0] n) 22)).alloc (.cells (madeCells #[.slice none 0 0] n) 22)).drew := by
  refine setBeg w1 _ n _ _ _ (so_st0 _ _ _ _ _ _) (so_mk1 _ _ _ _) (so_mk2 _ _ _ _) ?_ ?_ ?_ ?_ ?_ ?_ (so_low _ _ _ _)
  all_goals omega
theorem so_fin5 (w1 : World) (n : Nat) : ∃ X R1 R2, Value.pointer (some ⟨w1.heap.size, 0, none⟩) = .pointer (some ⟨X, 0, none⟩) ∧ (((w1.alloc (.cells #[.slice (some ⟨w1.heap.size + 1 + 1, 0, none⟩) n n, .slice (some ⟨w1.heap.size + 1, 0, none⟩) n n] 31)).alloc (.cells (madeCells #[.slice none 0 0] n) 22)).alloc (.cells (madeCells #[.slice none 0 0] n) 22)).drew.rowIs X 31 2 (fun q => if q = 0 then .slice (some ⟨R1, 0, none⟩) n n else .slice (some ⟨R2, 0, none⟩) n n) ∧ (((w1.alloc (.cells #[.slice (some ⟨w1.heap.size + 1 + 1, 0, none⟩) n n, .slice (some ⟨w1.heap.size + 1, 0, none⟩) n n] 31)).alloc (.cells (madeCells #[.slice none 0 0] n) 22)).alloc (.cells (madeCells #[.slice none 0 0] n) 22)).drew.rowIs R1 22 n (fun _ => .slice none 0 0) ∧ (((w1.alloc (.cells #[.slice (some ⟨w1.heap.size + 1 + 1, 0, none⟩) n n, .slice (some ⟨w1.heap.size + 1, 0, none⟩) n n] 31)).alloc (.cells (madeCells #[.slice none 0 0] n) 22)).alloc (.cells (madeCells #[.slice none 0 0] n) 22)).drew.rowIs R2 22 n (fun _ => .slice none 0 0) ∧ X ≠ R1 ∧ X ≠ R2 ∧ R1 ≠ R2 ∧ w1.heap.size ≤ X ∧ w1.heap.size ≤ R1 ∧ w1.heap.size ≤ R2 ∧ Below w1.heap.size w1 (((w1.alloc (.cells #[.slice (some ⟨w1.heap.size + 1 + 1, 0, none⟩) n n, .slice (some ⟨w1.heap.size + 1, 0, none⟩) n n] 31)).alloc (.cells (madeCells #[.slice none 0 0] n) 22)).alloc (.cells (madeCells #[.slice none 0 0] n) 22)).drew := by
  refine setBeg w1 _ n _ _ _ (so_st0 _ _ _ _ _ _) (so_mk2 _ _ _ _) (so_mk1 _ _ _ _) ?_ ?_ ?_ ?_ ?_ ?_ (so_low _ _ _ _)
  all_goals omega

set_option maxHeartbeats 4000000 in
theorem setsOf_err (f : Fn) (n nv : Nat) (m0 m1 r : Int) (av ab : Option Addr) (cv cb : Nat) (hr : flowE f m0 m1 (n * n + 1) = r) (h0 : r ≠ 0) (hnb : f.blocks.length = n) (hnv : f.values.length = nv) (w : World) (hv : SlOf w 1 RInt (.slice av nv cv) f.values) (hb : SlOf w 3 (RBlk w) (.slice ab n cb) f.blocks) :
    Calls Try.prog 6 #[.agg #[.slice av nv cv, .slice ab n cb], .agg #[.int .i64 m0, .int .i64 m1]] w fun e w' => e = .returned (.tuple #[.agg #[.slice none 0 0, .slice none 0 0], .int .i64 r]) ∧ Below w.heap.size w w' := by
  obtain ⟨W, hW⟩ : ∃ W, W = ((w.alloc (.cells #[.slice av nv cv, .slice ab n cb] 25)).alloc (.cells #[.int .i64 m0, .int .i64 m1] 28)).alloc (.cells #[.slice none 0 0, .slice none 0 0] 31) := ⟨_, rfl⟩
  obtain ⟨N, hN⟩ : ∃ N, w.heap.size = N := ⟨_, rfl⟩
  have hbw : Below w.heap.size w W := by rw [hW]; exact (((Below.refl _ _).alloc (Nat.le_refl _) _).alloc (by simp) _).alloc (by simp; omega) _
  have zW : W.heap.size = N + 1 + 1 + 1 := by rw [hW, ← hN]; simp
  obtain ⟨t0, t1, t2⟩ := three_at w #[.slice av nv cv, .slice ab n cb] #[.int .i64 m0, .int .i64 m1] #[.slice none 0 0, .slice none 0 0] 25 28 31
  rw [← hW, hN] at t0 t1 t2
  have c0 : W.cell? ⟨N, 0, none⟩ = some (.slice av nv cv) := t0 0
  have c1 : W.cell? ⟨N, 1, none⟩ = some (.slice ab n cb) := t0 1
  have d0 : W.cell? ⟨N + 1, 0, none⟩ = some (.int .i64 m0) := t1 0
  have d1 : W.cell? ⟨N + 1, 1, none⟩ = some (.int .i64 m1) := t1 1
  have rF : W.rowIs N 25 2 (fun q => if q = 0 then .slice av nv cv else .slice ab n cb) := by
    have h := World.rowIs_alloc w #[.slice av nv cv, .slice ab n cb] 25 (fun q => if q = 0 then .slice av nv cv else .slice ab n cb) fun i hi => by
      simp at hi
      match i, hi with | 0, _ => rfl | 1, _ => rfl
    rw [hN] at h
    rw [hW]
    exact (h.alloc _).alloc _
  have rR : W.rowIs (N + 1 + 1) 31 2 (fun _ => .slice none 0 0) := by
    have h := World.rowIs_alloc ((w.alloc (.cells #[.slice av nv cv, .slice ab n cb] 25)).alloc (.cells #[.int .i64 m0, .int .i64 m1] 28)) #[.slice none 0 0, .slice none 0 0] 31 (fun _ => .slice none 0 0) fun i hi => by
      simp at hi
      match i, hi with | 0, _ => rfl | 1, _ => rfl
    have e : ((w.alloc (.cells #[.slice av nv cv, .slice ab n cb] 25)).alloc (.cells #[.int .i64 m0, .int .i64 m1] 28)).heap.size = N + 1 + 1 := by simp [hN]
    rw [e] at h
    rw [hW]
    exact h
  have HW : Hid (W = ((w.alloc (.cells #[.slice av nv cv, .slice ab n cb] 25)).alloc (.cells #[.int .i64 m0, .int .i64 m1] 28)).alloc (.cells #[.slice none 0 0, .slice none 0 0] 31)) := hW
  have HN : Hid (w.heap.size = N) := hN
  have HBW : Hid (Below w.heap.size w W) := hbw
  have HC := funcFault_is f n nv av ab cv cb m0 m1 r hr W hnb hnv (hv.below hbw fun _ _ h => h) (hb.below hbw (RBlk.below hbw))
  have q1 : (r != 0) = true := by simpa using h0
  have HRR : Hid (W.rowIs (N + 1 + 1) 31 2 (fun _ => .slice none 0 0) ∧ N + 1 + 1 < W.heap.size) := ⟨rR, by omega⟩
  clear hW hN hbw hb hv hr h0 t0 t1 t2 hnv hnb rF rR zW
  go_enter Try.func6, Try.ntmps6
  go_upto_region 1 with fail
  rw [← HW.out, HN.out]
  clear HW
  go_wp2_with fail
  refine HC.mono ?_
  clear HC c0 c1 d0 d1
  rintro e w1 ⟨rfl, hb1⟩
  have HB1 : Hid (Below w.heap.size w w1) := HBW.out.trans (hb1.mono HBW.out.size)
  have r1 := HRR.out.1.of_block (hb1.block _ HRR.out.2)
  have s0 := r1.cell (i := 0) (by omega)
  have s1 := r1.cell (i := 1) (by omega)
  have z0 := r1.frozen 0
  have z1 := r1.frozen 1
  have lR := r1.lt
  have HF : Hid (Below w.heap.size w ((w1.setCell ⟨N + 1 + 1, 0, none⟩ (.slice none 0 0)).setCell ⟨N + 1 + 1, 1, none⟩ (.slice none 0 0))) := (HB1.out.setCell (by rw [HN.out]; simp; omega) _).setCell (by rw [HN.out]; simp; omega) _
  have rr : ((w1.setCell ⟨N + 1 + 1, 0, none⟩ (.slice none 0 0)).setCell ⟨N + 1 + 1, 1, none⟩ (.slice none 0 0)).rowIs (N + 1 + 1) 31 2 (fun _ => .slice none 0 0) := ((r1.set 0 _).set 1 _).congr fun i hi => by split <;> (try split) <;> rfl
  have s0' := rr.cell (i := 0) (by omega)
  have s1' := rr.cell (i := 1) (by omega)
  clear hb1 r1 rr
  go_wp2
  refine bodyPost_ret (v := .tuple #[.agg #[.slice none 0 0, .slice none 0 0], .int .i64 r]) (by simp [results, Try.results6, go_sem, s0', s1']) rfl ⟨rfl, HF.out⟩

set_option maxRecDepth 8000 in
set_option maxHeartbeats 16000000 in
theorem setsOf_any (f : Fn) (n nv : Nat) (m0 m1 : Int) (I O : Tb) (av ab : Option Addr) (cv cb : Nat) (hr : flowE f m0 m1 (n * n + 1) = 0) (hT : Told3 f.blocks nv I O) (hnb : f.blocks.length = n) (hnv : f.values.length = nv) (w : World) (hv : SlOf w 1 RInt (.slice av nv cv) f.values) (hb : SlOf w 3 (RBlk w) (.slice ab n cb) f.blocks) :
    Calls Try.prog 6 #[.agg #[.slice av nv cv, .slice ab n cb], .agg #[.int .i64 m0, .int .i64 m1]] w fun e w' => ∃ R1 R2, e = .returned (.tuple #[.agg #[.slice (some ⟨R1, 0, none⟩) n n, .slice (some ⟨R2, 0, none⟩) n n], .int .i64 0]) ∧ SlOf w' 1 (RRow w') (.slice (some ⟨R1, 0, none⟩) n n) ((List.range n).map fun b => rowL nv (I b)) ∧ SlOf w' 1 (RRow w') (.slice (some ⟨R2, 0, none⟩) n n) ((List.range n).map fun b => rowL nv (O b)) ∧ Below w.heap.size w w' := by
  obtain ⟨i3, hi3, hz3, hz31, hz32⟩ := info_parts infoFI
  have hsh := flowE_shape hr
  have hn16 : n ≤ 1000 := by have := (shape_in hsh).nb; omega
  have hnv160 : nv ≤ 1000 := by have := (shape_in hsh).nv; omega
  have hedge : ∀ b ∈ f.blocks, ∀ e ∈ b.edges, 0 ≤ e.block ∧ e.block < (n : Int) := by have := shape_edges hsh; rw [hnb] at this; exact this
  obtain ⟨W, hW⟩ : ∃ W, W = ((w.alloc (.cells #[.slice av nv cv, .slice ab n cb] 25)).alloc (.cells #[.int .i64 m0, .int .i64 m1] 28)).alloc (.cells #[.slice none 0 0, .slice none 0 0] 31) := ⟨_, rfl⟩
  obtain ⟨N, hN⟩ : ∃ N, w.heap.size = N := ⟨_, rfl⟩
  have hbw : Below w.heap.size w W := by rw [hW]; exact (((Below.refl _ _).alloc (Nat.le_refl _) _).alloc (by simp) _).alloc (by simp; omega) _
  have zW : W.heap.size = N + 1 + 1 + 1 := by rw [hW, ← hN]; simp
  obtain ⟨t0, t1, t2⟩ := three_at w #[.slice av nv cv, .slice ab n cb] #[.int .i64 m0, .int .i64 m1] #[.slice none 0 0, .slice none 0 0] 25 28 31
  rw [← hW, hN] at t0 t1 t2
  have c0 : W.cell? ⟨N, 0, none⟩ = some (.slice av nv cv) := t0 0
  have c1 : W.cell? ⟨N, 1, none⟩ = some (.slice ab n cb) := t0 1
  have d0 : W.cell? ⟨N + 1, 0, none⟩ = some (.int .i64 m0) := t1 0
  have d1 : W.cell? ⟨N + 1, 1, none⟩ = some (.int .i64 m1) := t1 1
  have rF : W.rowIs N 25 2 (fun q => if q = 0 then .slice av nv cv else .slice ab n cb) := by
    have h := World.rowIs_alloc w #[.slice av nv cv, .slice ab n cb] 25 (fun q => if q = 0 then .slice av nv cv else .slice ab n cb) fun i hi => by
      simp at hi
      match i, hi with | 0, _ => rfl | 1, _ => rfl
    rw [hN] at h
    rw [hW]
    exact (h.alloc _).alloc _
  have rR : W.rowIs (N + 1 + 1) 31 2 (fun _ => .slice none 0 0) := by
    have h := World.rowIs_alloc ((w.alloc (.cells #[.slice av nv cv, .slice ab n cb] 25)).alloc (.cells #[.int .i64 m0, .int .i64 m1] 28)) #[.slice none 0 0, .slice none 0 0] 31 (fun _ => .slice none 0 0) fun i hi => by
      simp at hi
      match i, hi with | 0, _ => rfl | 1, _ => rfl
    have e : ((w.alloc (.cells #[.slice av nv cv, .slice ab n cb] 25)).alloc (.cells #[.int .i64 m0, .int .i64 m1] 28)).heap.size = N + 1 + 1 := by simp [hN]
    rw [e] at h
    rw [hW]
    exact h
  have HW : Hid (W = ((w.alloc (.cells #[.slice av nv cv, .slice ab n cb] 25)).alloc (.cells #[.int .i64 m0, .int .i64 m1] 28)).alloc (.cells #[.slice none 0 0, .slice none 0 0] 31)) := hW
  have HN : Hid (w.heap.size = N) := hN
  have HBW : Hid (Below w.heap.size w W) := hbw
  have HC := funcFault_is f n nv av ab cv cb m0 m1 0 hr W hnb hnv (hv.below hbw fun _ _ h => h) (hb.below hbw (RBlk.below hbw))
  have hmk := run_make_row' (P := Try.prog) 29 22 (.slice none 0 0) 24 Try.underlying29 (by kernel_rfl) rfl .i64 .i64 n (by omega) (by omega)
  have HRR : Hid (W.rowIs N 25 2 (fun q => if q = 0 then .slice av nv cv else .slice ab n cb) ∧ W.rowIs (N + 1 + 1) 31 2 (fun _ => .slice none 0 0) ∧ W.heap.size = N + 1 + 1 + 1) := ⟨rF, rR, zW⟩
  have HBS : Hid (SlOf w 3 (RBlk w) (.slice ab n cb) f.blocks ∧ f.blocks.length = n) := ⟨hb, hnb⟩
  have HED : Hid (∀ b ∈ f.blocks, ∀ e ∈ b.edges, 0 ≤ e.block ∧ e.block < (n : Int)) := hedge
  have HT : Hid (Told3 f.blocks nv I O) := hT
  generalize f.blocks = bs at *
  clear hW hN hbw hb hv hr hsh hedge t0 t1 t2 hnv hnb rF rR zW hT
  go_enter Try.func6, Try.ntmps6
  go_upto_region 1 with fail
  rw [← HW.out, HN.out]
  clear HW
  go_wp2_with fail
  refine HC.mono ?_
  clear HC c0 c1 d0 d1
  rintro e w1 ⟨rfl, hb1⟩
  have rF1 := HRR.out.1.of_block (hb1.block _ HRR.out.1.lt)
  have HR1 : Hid (w1.rowIs N 25 2 (fun q => if q = 0 then .slice av nv cv else .slice ab n cb) ∧ w1.rowIs (N + 1 + 1) 31 2 (fun _ => .slice none 0 0) ∧ N + 1 + 1 < w1.heap.size ∧ Below N w w1) := ⟨rF1, HRR.out.2.1.of_block (hb1.block _ HRR.out.2.1.lt), by have h1 := HRR.out.2.2; have h2 := hb1.size; omega, by have h := HBW.out.trans (hb1.mono HBW.out.size); rw [HN.out] at h; exact h⟩
  have c1 : w1.cell? ⟨N, 1, none⟩ = some (.slice ab n cb) := rF1.cell (i := 1) (by omega)
  have lN : N < w1.heap.size := rF1.lt
  clear hb1 rF1
  go_upto_region 4 with fail
  go_cut [7] (fun x wz => ∃ X R1 R2, x = .pointer (some ⟨X, 0, none⟩) ∧ wz.rowIs X 31 2 (fun q => if q = 0 then .slice (some ⟨R1, 0, none⟩) n n else .slice (some ⟨R2, 0, none⟩) n n) ∧ wz.rowIs R1 22 n (fun _ => .slice none 0 0) ∧ wz.rowIs R2 22 n (fun _ => .slice none 0 0) ∧ X ≠ R1 ∧ X ≠ R2 ∧ R1 ≠ R2 ∧ w1.heap.size ≤ X ∧ w1.heap.size ≤ R1 ∧ w1.heap.size ≤ R2 ∧ Below w1.heap.size w1 wz)
  case first =>
    go_region
    all_goals (try go_wp2)
    all_goals go_meet
    all_goals first | (with_reducible exact so_fin0 w1 n) | (with_reducible exact so_fin1 w1 n) | (with_reducible exact so_fin2 w1 n) | (with_reducible exact so_fin3 w1 n) | (with_reducible exact so_fin4 w1 n) | (with_reducible exact so_fin5 w1 n)
  case rest =>
    obtain ⟨X, R1, R2, rfl, rX, r1, r2, nX1, nX2, n12, lX, l1, l2, hbz⟩ := hcut
    obtain ⟨B, hB⟩ : ∃ B, wc.heap.size = B := ⟨_, rfl⟩
    have b1 := r1.lt
    have b2 := r2.lt
    have b3 := rX.lt
    have h0 := HR1.out.2.2.1
    have HI0 : Hid (SoS w N X B R1 R2 n (.slice av nv cv) (.slice ab n cb) (fun _ => .slice none 0 0) (LL n I O 0 0) wc) := ⟨⟨r1, r2, fun i hi => (by
      have e : LL n I O 0 0 i = [] := List.length_eq_zero_iff.1 (by
        unfold LL
        split
        · rw [if_neg (by omega)]; exact Nat.le_zero.1 (rowL_few _ _)
        · rw [if_neg (by omega)]; exact Nat.le_zero.1 (rowL_few _ _))
      rw [e]
      exact ⟨rfl, Or.inl ⟨rfl, rfl⟩⟩), fun i j g _ _ _ h => by simp [Value.ownBlock] at h, by omega, by omega, n12, by omega⟩, HR1.out.1.of_block (hbz.block _ HR1.out.1.lt), HR1.out.2.1.of_block (hbz.block _ HR1.out.2.1.lt), rX, HR1.out.2.2.2.trans (hbz.mono (Nat.le_of_lt HR1.out.1.lt)), by omega, by omega, by omega, nX1, nX2, by omega⟩
    have hRG : Hid (∀ b t, t ∈ succM bs b → t < bs.length) := fun b t ht => by
      have hb := succ_in ht
      rw [succM_at _ _ hb] at ht
      obtain ⟨e, he, rfl⟩ := List.mem_map.1 ht
      have h := HED.out _ (List.getElem_mem hb) e he
      have h2 := HBS.out.2
      omega
    clear rX r1 r2 nX1 nX2 n12 lX l1 l2 hbz hB b1 b2 b3 h0 hmk c1 lN
    go_wp2_with fail
    go_loopw [8] (fun i wr => ∃ (k : Nat) (vs : Nat → Value), i = .int .i64 k ∧ k ≤ nv ∧ Hid (SoS w N X B R1 R2 n (.slice av nv cv) (.slice ab n cb) vs (LL n I O k 0) wr)) (fun i _ => nv - (intOf i).toNat)
    case atStart => exact ⟨0, _, rfl, Nat.zero_le _, HI0.out⟩
    case round =>
      clear HI0
      obtain ⟨k, vs, rfl, hk, HS⟩ := hrel
      obtain ⟨wo, hwo⟩ : ∃ wo, wo = wr := ⟨_, rfl⟩
      subst hwo
      have f0 : wo.cell? ⟨N, 0, none⟩ = some (.slice av nv cv) := HS.out.bx.cell (i := 0) (by omega)
      have f1 : wo.cell? ⟨N, 1, none⟩ = some (.slice ab n cb) := HS.out.bx.cell (i := 1) (by omega)
      have lN := HS.out.bx.lt
      by_cases hlt : k < nv
      · have hlow : Below w.heap.size w wo := by rw [HN.out]; exact HS.out.low
        have HCA := neededAt_any bs n nv k av ab cv cb wo HBS.out.2 (HBS.out.1.below hlow (RBlk.below hlow)) HED.out hn16
        clear hlow
        go_wp2_with fail
        refine HCA.mono ?_
        clear HCA f0 f1 lN
        rintro e w3 ⟨R, rfl, hrow, hR, hb3⟩
        obtain ⟨G, hG⟩ : ∃ G, wo.heap.size + 1 = G := ⟨_, rfl⟩
        rw [hG] at hrow
        rw [hG]
        have HS3 : Hid (SoS w N X B R1 R2 n (.slice av nv cv) (.slice ab n cb) vs (LL n I O k 0) w3) := HS.out.below hb3
        have HG3 : Hid (w3.rowIs G 4 n (fun i => .bool (R i)) ∧ ∀ j, j < n + n → (vs j).ownBlock ≠ some G) := ⟨hrow, fun j hj e => by have h := own_base (HS.out.t.own j hj) e; omega⟩
        have HGB : Hid (B ≤ G) := by show B ≤ G; have := HS.out.t.lB; omega
        have HRR2 : Hid (∀ t, t < bs.length → (R t = true ↔ NeedIn bs t k)) := fun t ht => hR t (by rw [← HBS.out.2]; exact ht)
        clear hrow hR hb3 hG HS
        go_wp2_with fail
        go_loopw [10] (fun i wr => ∃ (b : Nat) (vs : Nat → Value), i = .int .i64 b ∧ b ≤ n ∧ Hid (SoS w N X B R1 R2 n (.slice av nv cv) (.slice ab n cb) vs (LL n I O k b) wr ∧ wr.rowIs G 4 n (fun i => .bool (R i)) ∧ ∀ j, j < n + n → (vs j).ownBlock ≠ some G)) (fun i _ => n - (intOf i).toNat)
        case atStart => exact ⟨0, vs, rfl, Nat.zero_le _, HS3.out, HG3.out⟩
        case round =>
          clear HS3 HG3 vs
          obtain ⟨b, vs, rfl, hb, HI⟩ := hrel
          have f1 : wr.cell? ⟨N, 1, none⟩ = some (.slice ab n cb) := HI.out.1.bx.cell (i := 1) (by omega)
          by_cases hbn : b < n
          · have hbl : b < bs.length := by rw [HBS.out.2]; exact hbn
            have rb := HI.out.2.1.cell hbn
            obtain ⟨iv, hiv⟩ : ∃ iv, R b = iv := ⟨_, rfl⟩
            have HIV : Hid (I b k = iv) := by
              show _ = _
              rw [← hiv, Bool.eq_iff_iff, HT.out.1 b k hlt]
              exact (HRR2.out b hbl).symm
            rw [hiv] at rb
            obtain ⟨ob, hob⟩ : ∃ ob, O b k = ob := ⟨_, rfl⟩
            have HOB : Hid (O b k = ob) := hob
            have HOR : Hid (((bs[b].edges.any fun e => R e.block.toNat) || decide ((k : Int) ∈ argsU bs[b].edges)) = ob) := (outB HT.out hlt hbl HRR2.out (fun t ht => hRG.out b t ht)).trans hob
            clear hiv hob
            cases iv
            case true =>
              obtain ⟨L, hL⟩ : ∃ L, LL n I O k b = L := ⟨_, rfl⟩
              have HS : Hid (SoS w N X B R1 R2 n (.slice av nv cv) (.slice ab n cb) vs L wr) := by rw [← hL]; exact HI.out.1
              have HG5 : Hid (wr.rowIs G 4 n (fun i => .bool (R i)) ∧ ∀ j, j < n + n → (vs j).ownBlock ≠ some G) := HI.out.2
              have HLL : Hid (LL n I O k b = L) := hL
              have HLf : Hid (∀ i, (L i).length ≤ 2000) := fun i => by
                rw [← hL]
                have := LL_few n I O k b i; omega
              clear hL HI
              go_upto_region 13 with fail
              clear rb f1
              have xk : wr.cell? ⟨X, 0, none⟩ = some (.slice (some ⟨R1, 0, none⟩) n n) := HS.out.sx.cell (i := 0) (by omega)
              have hrow := HS.out.t.r1
              have r0 := hrow.cell hbn
              have rz := hrow.frozen b
              have rl := hrow.lt
              have xl := HS.out.sx.lt
              have own := HS.out.t.own (b) (by omega)
              have HV : Hid (vs (b) = vs (b)) := rfl
              have hlen : (L (b)).length ≤ 100000 := Nat.le_trans (HLf.out _) (by omega)
              have nR : some R1 ≠ (vs (b)).ownBlock := fun e => HS.out.t.free HS.out.t.l1 (b) (by omega) e.symm
              have nX : some X ≠ (vs (b)).ownBlock := fun e => HS.out.t.free HS.out.dN.2.2.2.2.2 (b) (by omega) e.symm
              have hBw := HS.out.t.lB
              generalize hvo : vs (b) = vo at *
              have HVO : Hid (vs (b) = vo) := hvo
              generalize hlo : L (b) = lo at *
              have HLO : Hid (L (b) = lo) := hlo
              have oA := (own.alloc (.cells #[.int .i64 k] 3)).drew
              have LR := old_cell R1
              have LX := old_cell X
              have cR : ((wr.alloc (.cells #[.int .i64 k] 3)).drew).cell? ⟨R1, b, none⟩ = some vo := (LR _ _ _ rl).trans r0
              have cZ : ((wr.alloc (.cells #[.int .i64 k] 3)).drew).frozen? ⟨R1, b, none⟩ = false := (frozen?_alloc_cells _ _ _ _).trans rz
              have cX : ((wr.alloc (.cells #[.int .i64 k] 3)).drew).cell? ⟨X, 0, none⟩ = some (.slice (some ⟨R1, 0, none⟩) n n) := (LX _ _ _ xl).trans xk
              have lR' : R1 < ((wr.alloc (.cells #[.int .i64 k] 3)).drew).heap.size := by simp; omega
              have lX' : X < ((wr.alloc (.cells #[.int .i64 k] 3)).drew).heap.size := by simp; omega
              have HNW : Hid (∀ j u, ([.int .i64 k] : List Value)[j]? = some u → ((wr.alloc (.cells #[.int .i64 k] 3)).drew).cell? ((⟨wr.heap.size, 0, none⟩ : Addr).add j) = some u) := World.news_of_block (cs := #[.int .i64 k]) (t := 3) (fr := (0, 0)) (heap_alloc_new wr _)
              have h1c : ∀ u ∈ ([.int .i64 k] : List Value), u.oneCell' = true := by intro u hu; simp at hu; subst hu; rfl
              have hbi : (b : Int) < (n : Int) := by omega
              clear hvo hlo hrow
              refine wp_region_X (fun w' => w'.cell? ⟨X, 0, none⟩ = some (.slice (some ⟨R1, 0, none⟩) n n) ∧ w'.cell? ⟨R1, b, none⟩ = some vo) 12 (by kernel_rfl) ⟨xk, r0⟩ (fun hHeld => ?_)
              refine wpXt (v := ?_) 0 rfl (by kernel_rfl) (fun _ _ _ h => h) (by rfl) ?_ hHeld ?_
              rotate_left
              · intro w' hSw
                go_simp <;> with_reducible rfl
              try simp only [Act.put, List.setIfInBounds_toArray, List.set_cons_zero, List.set_cons_succ]
              refine wpXt (v := ?_) 1 rfl (by kernel_rfl) (fun _ _ _ h => h) (by rfl) ?_ hHeld ?_
              rotate_left
              · intro w' hSw
                go_simp <;> with_reducible rfl
              try simp only [Act.put, List.setIfInBounds_toArray, List.set_cons_zero, List.set_cons_succ]
              refine wpXt (v := ?_) 2 rfl (by kernel_rfl) (fun _ _ _ h => h) (by rfl) ?_ hHeld ?_
              rotate_left
              · intro w' hSw
                go_simp <;> with_reducible rfl
              try simp only [Act.put, List.setIfInBounds_toArray, List.set_cons_zero, List.set_cons_succ]
              refine wpXt (v := ?_) 3 rfl (by kernel_rfl) (fun _ _ _ h => h) (by rfl) ?_ hHeld ?_
              rotate_left
              · intro w' hSw
                go_simp <;> with_reducible rfl
              try simp only [Act.put, List.setIfInBounds_toArray, List.set_cons_zero, List.set_cons_succ]
              refine wpXt (v := ?_) 4 rfl (by kernel_rfl) (fun _ _ _ h => h) (by rfl) ?_ hHeld ?_
              rotate_left
              · intro w' hSw
                go_simp <;> with_reducible rfl
              try simp only [Act.put, List.setIfInBounds_toArray, List.set_cons_zero, List.set_cons_succ]
              refine wpXt (v := ?_) 5 rfl (by kernel_rfl) (fun _ _ _ h => h) (by rfl) ?_ hHeld ?_
              rotate_left
              · intro w' hSw
                go_simp <;> with_reducible rfl
              try simp only [Act.put, List.setIfInBounds_toArray, List.set_cons_zero, List.set_cons_succ]
              refine wpXt (v := ?_) 6 rfl (by kernel_rfl) (fun _ _ _ h => h) (by rfl) ?_ hHeld ?_
              rotate_left
              · intro w' hSw
                go_simp <;> with_reducible rfl
              try simp only [Act.put, List.setIfInBounds_toArray, List.set_cons_zero, List.set_cons_succ]
              refine wpXt (v := ?_) 7 rfl (by kernel_rfl) (fun _ _ _ h => h) (by rfl) ?_ hHeld ?_
              rotate_left
              · intro w' hSw
                go_simp <;> with_reducible rfl
              try simp only [Act.put, List.setIfInBounds_toArray, List.set_cons_zero, List.set_cons_succ]
              refine wpXt (v := ?_) 8 rfl (by kernel_rfl) (fun _ _ _ h => h) (by rfl) ?_ hHeld ?_
              rotate_left
              · intro w' hSw
                go_simp <;> with_reducible rfl
              try simp only [Act.put, List.setIfInBounds_toArray, List.set_cons_zero, List.set_cons_succ]
              refine wpXs 9 rfl (by kernel_rfl) (fun K hK => ?_)
              go_simp
              refine hK.out _ _ ⟨cX, cR⟩ (fun hHeld => ?_)
              clear hK K
              try simp only [Act.put, List.setIfInBounds_toArray, List.set_cons_zero, List.set_cons_succ]
              refine wpXs 10 rfl (by kernel_rfl) (fun K hK => ?_)
              refine step_append_lies _ (by rfl) _ _ _ (by rfl) B 3 i3 _ 1 8 Try.underlying22 hi3 hz3 hz31 hz32 rfl (by omega) vo lo.length _ (by rfl) oA ⟨wr.heap.size, 0, none⟩ 1 1 [.int .i64 k] (by rfl) (by rfl) HNW.out h1c (by omega) (by unfold maxLen; omega) (by omega) (by simp; omega) (wr.heap.size + 1) (by simp) ?_
              intro gg cap2 wb2 hown1 hgrow hat2 hlt2
              have r0' := (hgrow.cell_far _ lR' nR).trans cR
              have rz' := (hgrow.frozen_far _ lR' nR).trans cZ
              have x0' := (hgrow.cell_far _ lX' nX).trans cX
              refine hK.out _ _ ⟨x0', r0'⟩ (fun hHeld => ?_)
              clear hK K
              try simp only [Act.put, List.setIfInBounds_toArray, List.set_cons_zero, List.set_cons_succ]
              refine wpXt (v := ?_) 11 rfl (by kernel_rfl) (fun _ _ _ h => h) (by rfl) ?_ hHeld ?_
              rotate_left
              · intro w' hSw
                go_simp <;> with_reducible rfl
              try simp only [Act.put, List.setIfInBounds_toArray, List.set_cons_zero, List.set_cons_succ]
              refine wpXl 12 rfl (by kernel_rfl) rfl (by kernel_rfl) (fun K hK => ?_)
              go_simp
              refine hK.out _ _ ?_
              clear hK K
              have hbA : Below wr.heap.size wr ((wr.alloc (.cells #[.int .i64 k] 3)).drew) := ((Below.refl _ _).alloc (Nat.le_refl _) _).drew
              have hat3 : (vs (b)).ownBlock = some gg ∨ wr.heap.size ≤ gg := by
                rw [HVO.out]
                rcases hat2 with h1 | h1
                · exact Or.inl h1
                · right; omega
              have hp2 := HS.out.push (t := b) (R := R1) (i := b) (by omega) hbA (by rw [HVO.out]; exact hgrow) (by rw [HLO.out]; exact hown1) hat3 (Or.inl ⟨hbn, rfl, rfl⟩)
              rw [HLO.out] at hp2

              obtain ⟨wq, hwq⟩ : ∃ wq, wq = wb2.setCell ⟨R1, b, none⟩ (.slice (some ⟨gg, 0, none⟩) (lo.length + 1) cap2) := ⟨_, rfl⟩
              rw [← hwq]
              rw [← hwq] at hp2
              have HM : Hid (SoS w N X B R1 R2 n (.slice av nv cv) (.slice ab n cb) (upV vs b (.slice (some ⟨gg, 0, none⟩) (lo.length + 1) cap2)) (upW (LL n I O k b) b (rowL (k + 1) (I b))) wq ∧ wq.rowIs G 4 n (fun i => .bool (R i)) ∧ ∀ j, j < n + n → (upV vs b (.slice (some ⟨gg, 0, none⟩) (lo.length + 1) cap2) j).ownBlock ≠ some G) := by
                obtain ⟨k1, k2⟩ := hp2.2 G HG5.out.1.lt HG5.out.2 (by have h1 := HS.out.t.l1; have h2 := HGB.out; omega)
                refine ⟨hp2.1.congr fun i hi => ?_, HG5.out.1.of_block k1, k2⟩
                rw [HLL.out]
                unfold upW
                by_cases e : i = b
                · rw [if_pos e, if_pos e, ← HLO.out, ← HLL.out, LL_b n I O k b hbn, rowL_succ, if_pos HIV.out]
                · rw [if_neg e, if_neg e]
              clear hp2 hbA hat3 HS hown1 hgrow hat2 r0' rz' x0' oA own hwq HG5 HLL HLf HVO HLO HV nR nX cR cZ cX lR' lX' HNW h1c r0 rz rl xl xk hlen hBw LR LX
              generalize upV vs b (.slice (some ⟨gg, 0, none⟩) (lo.length + 1) cap2) = vs at *
              have f1 : wq.cell? ⟨N, 1, none⟩ = some (.slice ab n cb) := HM.out.1.bx.cell (i := 1) (by omega)
              have f0 : wq.cell? ⟨N, 0, none⟩ = some (.slice av nv cv) := HM.out.1.bx.cell (i := 0) (by omega)
              have lN := HM.out.1.bx.lt
              have hlow : Below w.heap.size w wq := by rw [HN.out]; exact HM.out.1.low
              have HCB := neededBehind_is bs n nv b G (k : Int) R ob av ab cv cb wq HBS.out.2 hbl HOR.out (HBS.out.1.below hlow (RBlk.below hlow)) HM.out.2.1 (HED.out _ (List.getElem_mem hbl))
              clear hlow
              go_wp2_with fail
              refine HCB.mono ?_
              clear HCB f0 f1 lN
              rintro e w5 ⟨rfl, hb5⟩
              have HM5 : Hid (SoS w N X B R1 R2 n (.slice av nv cv) (.slice ab n cb) vs (upW (LL n I O k b) b (rowL (k + 1) (I b))) w5 ∧ w5.rowIs G 4 n (fun i => .bool (R i)) ∧ ∀ j, j < n + n → (vs j).ownBlock ≠ some G) := ⟨HM.out.1.below hb5, HM.out.2.1.of_block (hb5.block _ HM.out.2.1.lt), HM.out.2.2⟩
              clear hb5 HM
              cases ob
              case false =>
                have HX : Hid (SoS w N X B R1 R2 n (.slice av nv cv) (.slice ab n cb) vs (LL n I O k (b + 1)) w5 ∧ w5.rowIs G 4 n (fun i => .bool (R i)) ∧ ∀ j, j < n + n → (vs j).ownBlock ≠ some G) := by
                  refine ⟨HM5.out.1.congr fun i hi => ?_, HM5.out.2⟩
                  rw [← LL_step n I O k b i hbn]
                  unfold upW
                  by_cases e : i = n + b
                  · subst e
                    rw [if_pos rfl, if_neg (by omega), rowL_succ, if_neg (by rw [HOB.out]; simp)]
                    have h := LL_nb n I O k b [] hbn
                    unfold upW at h
                    rw [if_neg (by omega)] at h
                    exact h
                  · rw [if_neg e]
                clear HM5
                go_wp2
                go_roundw
                case rel => exact ⟨b + 1, _, by go_num, by omega, HX⟩
                case measure => simp [intOf]; omega
              case true =>
                have hvs := HM5.out
                have HG5 : Hid (w5.rowIs G 4 n (fun i => .bool (R i)) ∧ ∀ j, j < n + n → (vs j).ownBlock ≠ some G) := hvs.2
                obtain ⟨L, hL⟩ : ∃ L, upW (LL n I O k b) b (rowL (k + 1) (I b)) = L := ⟨_, rfl⟩
                have HS : Hid (SoS w N X B R1 R2 n (.slice av nv cv) (.slice ab n cb) vs L w5) := by rw [← hL]; exact hvs.1
                have HLL : Hid (upW (LL n I O k b) b (rowL (k + 1) (I b)) = L) := hL
                have HLf : Hid (∀ i, (L i).length ≤ 2000) := fun i => by
                  rw [← hL]
                  unfold upW
                  split
                  · have := rowL_few (k + 1) (I b); omega
                  · have := LL_few n I O k b i; omega
                clear hvs hL HM5
                go_upto_region 15 with fail
                have xk : w5.cell? ⟨X, 1, none⟩ = some (.slice (some ⟨R2, 0, none⟩) n n) := HS.out.sx.cell (i := 1) (by omega)
                have hrow := HS.out.t.r2
                have r0 := hrow.cell hbn
                have rz := hrow.frozen b
                have rl := hrow.lt
                have xl := HS.out.sx.lt
                have own := HS.out.t.own (n + b) (by omega)
                have HV : Hid (vs (n + b) = vs (n + b)) := rfl
                have hlen : (L (n + b)).length ≤ 100000 := Nat.le_trans (HLf.out _) (by omega)
                have nR : some R2 ≠ (vs (n + b)).ownBlock := fun e => HS.out.t.free HS.out.t.l2 (n + b) (by omega) e.symm
                have nX : some X ≠ (vs (n + b)).ownBlock := fun e => HS.out.t.free HS.out.dN.2.2.2.2.2 (n + b) (by omega) e.symm
                have hBw := HS.out.t.lB
                generalize hvo : vs (n + b) = vo at *
                have HVO : Hid (vs (n + b) = vo) := hvo
                generalize hlo : L (n + b) = lo at *
                have HLO : Hid (L (n + b) = lo) := hlo
                have oA := (own.alloc (.cells #[.int .i64 k] 3)).drew
                have LR := old_cell R2
                have LX := old_cell X
                have cR : ((w5.alloc (.cells #[.int .i64 k] 3)).drew).cell? ⟨R2, b, none⟩ = some vo := (LR _ _ _ rl).trans r0
                have cZ : ((w5.alloc (.cells #[.int .i64 k] 3)).drew).frozen? ⟨R2, b, none⟩ = false := (frozen?_alloc_cells _ _ _ _).trans rz
                have cX : ((w5.alloc (.cells #[.int .i64 k] 3)).drew).cell? ⟨X, 1, none⟩ = some (.slice (some ⟨R2, 0, none⟩) n n) := (LX _ _ _ xl).trans xk
                have lR' : R2 < ((w5.alloc (.cells #[.int .i64 k] 3)).drew).heap.size := by simp; omega
                have lX' : X < ((w5.alloc (.cells #[.int .i64 k] 3)).drew).heap.size := by simp; omega
                have HNW : Hid (∀ j u, ([.int .i64 k] : List Value)[j]? = some u → ((w5.alloc (.cells #[.int .i64 k] 3)).drew).cell? ((⟨w5.heap.size, 0, none⟩ : Addr).add j) = some u) := World.news_of_block (cs := #[.int .i64 k]) (t := 3) (fr := (0, 0)) (heap_alloc_new w5 _)
                have h1c : ∀ u ∈ ([.int .i64 k] : List Value), u.oneCell' = true := by intro u hu; simp at hu; subst hu; rfl
                have hbi : (b : Int) < (n : Int) := by omega
                clear hvo hlo hrow
                refine wp_region_X (fun w' => w'.cell? ⟨X, 1, none⟩ = some (.slice (some ⟨R2, 0, none⟩) n n) ∧ w'.cell? ⟨R2, b, none⟩ = some vo) 12 (by kernel_rfl) ⟨xk, r0⟩ (fun hHeld => ?_)
                refine wpXt (v := ?_) 0 rfl (by kernel_rfl) (fun _ _ _ h => h) (by rfl) ?_ hHeld ?_
                rotate_left
                · intro w' hSw
                  go_simp <;> with_reducible rfl
                try simp only [Act.put, List.setIfInBounds_toArray, List.set_cons_zero, List.set_cons_succ]
                refine wpXt (v := ?_) 1 rfl (by kernel_rfl) (fun _ _ _ h => h) (by rfl) ?_ hHeld ?_
                rotate_left
                · intro w' hSw
                  go_simp <;> with_reducible rfl
                try simp only [Act.put, List.setIfInBounds_toArray, List.set_cons_zero, List.set_cons_succ]
                refine wpXt (v := ?_) 2 rfl (by kernel_rfl) (fun _ _ _ h => h) (by rfl) ?_ hHeld ?_
                rotate_left
                · intro w' hSw
                  go_simp <;> with_reducible rfl
                try simp only [Act.put, List.setIfInBounds_toArray, List.set_cons_zero, List.set_cons_succ]
                refine wpXt (v := ?_) 3 rfl (by kernel_rfl) (fun _ _ _ h => h) (by rfl) ?_ hHeld ?_
                rotate_left
                · intro w' hSw
                  go_simp <;> with_reducible rfl
                try simp only [Act.put, List.setIfInBounds_toArray, List.set_cons_zero, List.set_cons_succ]
                refine wpXt (v := ?_) 4 rfl (by kernel_rfl) (fun _ _ _ h => h) (by rfl) ?_ hHeld ?_
                rotate_left
                · intro w' hSw
                  go_simp <;> with_reducible rfl
                try simp only [Act.put, List.setIfInBounds_toArray, List.set_cons_zero, List.set_cons_succ]
                refine wpXt (v := ?_) 5 rfl (by kernel_rfl) (fun _ _ _ h => h) (by rfl) ?_ hHeld ?_
                rotate_left
                · intro w' hSw
                  go_simp <;> with_reducible rfl
                try simp only [Act.put, List.setIfInBounds_toArray, List.set_cons_zero, List.set_cons_succ]
                refine wpXt (v := ?_) 6 rfl (by kernel_rfl) (fun _ _ _ h => h) (by rfl) ?_ hHeld ?_
                rotate_left
                · intro w' hSw
                  go_simp <;> with_reducible rfl
                try simp only [Act.put, List.setIfInBounds_toArray, List.set_cons_zero, List.set_cons_succ]
                refine wpXt (v := ?_) 7 rfl (by kernel_rfl) (fun _ _ _ h => h) (by rfl) ?_ hHeld ?_
                rotate_left
                · intro w' hSw
                  go_simp <;> with_reducible rfl
                try simp only [Act.put, List.setIfInBounds_toArray, List.set_cons_zero, List.set_cons_succ]
                refine wpXt (v := ?_) 8 rfl (by kernel_rfl) (fun _ _ _ h => h) (by rfl) ?_ hHeld ?_
                rotate_left
                · intro w' hSw
                  go_simp <;> with_reducible rfl
                try simp only [Act.put, List.setIfInBounds_toArray, List.set_cons_zero, List.set_cons_succ]
                refine wpXs 9 rfl (by kernel_rfl) (fun K hK => ?_)
                go_simp
                refine hK.out _ _ ⟨cX, cR⟩ (fun hHeld => ?_)
                clear hK K
                try simp only [Act.put, List.setIfInBounds_toArray, List.set_cons_zero, List.set_cons_succ]
                refine wpXs 10 rfl (by kernel_rfl) (fun K hK => ?_)
                refine step_append_lies _ (by rfl) _ _ _ (by rfl) B 3 i3 _ 1 8 Try.underlying22 hi3 hz3 hz31 hz32 rfl (by omega) vo lo.length _ (by rfl) oA ⟨w5.heap.size, 0, none⟩ 1 1 [.int .i64 k] (by rfl) (by rfl) HNW.out h1c (by omega) (by unfold maxLen; omega) (by omega) (by simp; omega) (w5.heap.size + 1) (by simp) ?_
                intro gg cap2 wb2 hown1 hgrow hat2 hlt2
                have r0' := (hgrow.cell_far _ lR' nR).trans cR
                have rz' := (hgrow.frozen_far _ lR' nR).trans cZ
                have x0' := (hgrow.cell_far _ lX' nX).trans cX
                refine hK.out _ _ ⟨x0', r0'⟩ (fun hHeld => ?_)
                clear hK K
                try simp only [Act.put, List.setIfInBounds_toArray, List.set_cons_zero, List.set_cons_succ]
                refine wpXt (v := ?_) 11 rfl (by kernel_rfl) (fun _ _ _ h => h) (by rfl) ?_ hHeld ?_
                rotate_left
                · intro w' hSw
                  go_simp <;> with_reducible rfl
                try simp only [Act.put, List.setIfInBounds_toArray, List.set_cons_zero, List.set_cons_succ]
                refine wpXl 12 rfl (by kernel_rfl) rfl (by kernel_rfl) (fun K hK => ?_)
                go_simp
                refine hK.out _ _ ?_
                clear hK K
                have hbA : Below w5.heap.size w5 ((w5.alloc (.cells #[.int .i64 k] 3)).drew) := ((Below.refl _ _).alloc (Nat.le_refl _) _).drew
                have hat3 : (vs (n + b)).ownBlock = some gg ∨ w5.heap.size ≤ gg := by
                  rw [HVO.out]
                  rcases hat2 with h1 | h1
                  · exact Or.inl h1
                  · right; omega
                have hp2 := HS.out.push (t := n + b) (R := R2) (i := b) (by omega) hbA (by rw [HVO.out]; exact hgrow) (by rw [HLO.out]; exact hown1) hat3 (Or.inr ⟨by omega, rfl, by omega⟩)
                rw [HLO.out] at hp2

                have HX : Hid (SoS w N X B R1 R2 n (.slice av nv cv) (.slice ab n cb) (upV vs (n + b) (.slice (some ⟨gg, 0, none⟩) (lo.length + 1) cap2)) (LL n I O k (b + 1)) (wb2.setCell ⟨R2, b, none⟩ (.slice (some ⟨gg, 0, none⟩) (lo.length + 1) cap2)) ∧ (wb2.setCell ⟨R2, b, none⟩ (.slice (some ⟨gg, 0, none⟩) (lo.length + 1) cap2)).rowIs G 4 n (fun i => .bool (R i)) ∧ ∀ j, j < n + n → (upV vs (n + b) (.slice (some ⟨gg, 0, none⟩) (lo.length + 1) cap2) j).ownBlock ≠ some G) := by
                  obtain ⟨k1, k2⟩ := hp2.2 G HG5.out.1.lt HG5.out.2 (by have h1 := HS.out.t.l2; have h2 := HGB.out; omega)
                  refine ⟨hp2.1.congr fun i hi => ?_, HG5.out.1.of_block k1, k2⟩
                  rw [← LL_step n I O k b i hbn, HLL.out]
                  unfold upW
                  by_cases e : i = n + b
                  · rw [if_pos e, if_pos e, ← HLO.out, ← HLL.out, LL_nb n I O k b _ hbn, rowL_succ, if_pos HOB.out]
                  · rw [if_neg e, if_neg e]
                clear hp2 hbA hat3 HS hown1 hgrow hat2 r0' rz' x0' oA own
                go_wp2
                go_roundw
                case rel => exact ⟨b + 1, _, by go_num, by omega, HX⟩
                case measure => simp [intOf]; omega

            case false =>
              have HM : Hid (SoS w N X B R1 R2 n (.slice av nv cv) (.slice ab n cb) vs (upW (LL n I O k b) b (rowL (k + 1) (I b))) wr ∧ wr.rowIs G 4 n (fun i => .bool (R i)) ∧ ∀ j, j < n + n → (vs j).ownBlock ≠ some G) := by
                refine ⟨HI.out.1.congr fun i hi => ?_, HI.out.2⟩
                unfold upW
                by_cases e : i = b
                · subst e
                  rw [if_pos rfl, LL_b _ _ _ _ _ hbn, rowL_succ, if_neg (by rw [HIV.out]; simp)]
                · rw [if_neg e]
              clear HI f1
              have f1 : wr.cell? ⟨N, 1, none⟩ = some (.slice ab n cb) := HM.out.1.bx.cell (i := 1) (by omega)
              have f0 : wr.cell? ⟨N, 0, none⟩ = some (.slice av nv cv) := HM.out.1.bx.cell (i := 0) (by omega)
              have lN := HM.out.1.bx.lt
              have hlow : Below w.heap.size w wr := by rw [HN.out]; exact HM.out.1.low
              have HCB := neededBehind_is bs n nv b G (k : Int) R ob av ab cv cb wr HBS.out.2 hbl HOR.out (HBS.out.1.below hlow (RBlk.below hlow)) HM.out.2.1 (HED.out _ (List.getElem_mem hbl))
              clear hlow
              go_wp2_with fail
              refine HCB.mono ?_
              clear HCB f0 f1 lN
              rintro e w5 ⟨rfl, hb5⟩
              have HM5 : Hid (SoS w N X B R1 R2 n (.slice av nv cv) (.slice ab n cb) vs (upW (LL n I O k b) b (rowL (k + 1) (I b))) w5 ∧ w5.rowIs G 4 n (fun i => .bool (R i)) ∧ ∀ j, j < n + n → (vs j).ownBlock ≠ some G) := ⟨HM.out.1.below hb5, HM.out.2.1.of_block (hb5.block _ HM.out.2.1.lt), HM.out.2.2⟩
              clear hb5 HM
              cases ob
              case false =>
                have HX : Hid (SoS w N X B R1 R2 n (.slice av nv cv) (.slice ab n cb) vs (LL n I O k (b + 1)) w5 ∧ w5.rowIs G 4 n (fun i => .bool (R i)) ∧ ∀ j, j < n + n → (vs j).ownBlock ≠ some G) := by
                  refine ⟨HM5.out.1.congr fun i hi => ?_, HM5.out.2⟩
                  rw [← LL_step n I O k b i hbn]
                  unfold upW
                  by_cases e : i = n + b
                  · subst e
                    rw [if_pos rfl, if_neg (by omega), rowL_succ, if_neg (by rw [HOB.out]; simp)]
                    have h := LL_nb n I O k b [] hbn
                    unfold upW at h
                    rw [if_neg (by omega)] at h
                    exact h
                  · rw [if_neg e]
                clear HM5
                go_wp2
                go_roundw
                case rel => exact ⟨b + 1, _, by go_num, by omega, HX⟩
                case measure => simp [intOf]; omega
              case true =>
                have hvs := HM5.out
                have HG5 : Hid (w5.rowIs G 4 n (fun i => .bool (R i)) ∧ ∀ j, j < n + n → (vs j).ownBlock ≠ some G) := hvs.2
                obtain ⟨L, hL⟩ : ∃ L, upW (LL n I O k b) b (rowL (k + 1) (I b)) = L := ⟨_, rfl⟩
                have HS : Hid (SoS w N X B R1 R2 n (.slice av nv cv) (.slice ab n cb) vs L w5) := by rw [← hL]; exact hvs.1
                have HLL : Hid (upW (LL n I O k b) b (rowL (k + 1) (I b)) = L) := hL
                have HLf : Hid (∀ i, (L i).length ≤ 2000) := fun i => by
                  rw [← hL]
                  unfold upW
                  split
                  · have := rowL_few (k + 1) (I b); omega
                  · have := LL_few n I O k b i; omega
                clear hvs hL HM5
                go_upto_region 15 with fail
                have xk : w5.cell? ⟨X, 1, none⟩ = some (.slice (some ⟨R2, 0, none⟩) n n) := HS.out.sx.cell (i := 1) (by omega)
                have hrow := HS.out.t.r2
                have r0 := hrow.cell hbn
                have rz := hrow.frozen b
                have rl := hrow.lt
                have xl := HS.out.sx.lt
                have own := HS.out.t.own (n + b) (by omega)
                have HV : Hid (vs (n + b) = vs (n + b)) := rfl
                have hlen : (L (n + b)).length ≤ 100000 := Nat.le_trans (HLf.out _) (by omega)
                have nR : some R2 ≠ (vs (n + b)).ownBlock := fun e => HS.out.t.free HS.out.t.l2 (n + b) (by omega) e.symm
                have nX : some X ≠ (vs (n + b)).ownBlock := fun e => HS.out.t.free HS.out.dN.2.2.2.2.2 (n + b) (by omega) e.symm
                have hBw := HS.out.t.lB
                generalize hvo : vs (n + b) = vo at *
                have HVO : Hid (vs (n + b) = vo) := hvo
                generalize hlo : L (n + b) = lo at *
                have HLO : Hid (L (n + b) = lo) := hlo
                have oA := (own.alloc (.cells #[.int .i64 k] 3)).drew
                have LR := old_cell R2
                have LX := old_cell X
                have cR : ((w5.alloc (.cells #[.int .i64 k] 3)).drew).cell? ⟨R2, b, none⟩ = some vo := (LR _ _ _ rl).trans r0
                have cZ : ((w5.alloc (.cells #[.int .i64 k] 3)).drew).frozen? ⟨R2, b, none⟩ = false := (frozen?_alloc_cells _ _ _ _).trans rz
                have cX : ((w5.alloc (.cells #[.int .i64 k] 3)).drew).cell? ⟨X, 1, none⟩ = some (.slice (some ⟨R2, 0, none⟩) n n) := (LX _ _ _ xl).trans xk
                have lR' : R2 < ((w5.alloc (.cells #[.int .i64 k] 3)).drew).heap.size := by simp; omega
                have lX' : X < ((w5.alloc (.cells #[.int .i64 k] 3)).drew).heap.size := by simp; omega
                have HNW : Hid (∀ j u, ([.int .i64 k] : List Value)[j]? = some u → ((w5.alloc (.cells #[.int .i64 k] 3)).drew).cell? ((⟨w5.heap.size, 0, none⟩ : Addr).add j) = some u) := World.news_of_block (cs := #[.int .i64 k]) (t := 3) (fr := (0, 0)) (heap_alloc_new w5 _)
                have h1c : ∀ u ∈ ([.int .i64 k] : List Value), u.oneCell' = true := by intro u hu; simp at hu; subst hu; rfl
                have hbi : (b : Int) < (n : Int) := by omega
                clear hvo hlo hrow
                refine wp_region_X (fun w' => w'.cell? ⟨X, 1, none⟩ = some (.slice (some ⟨R2, 0, none⟩) n n) ∧ w'.cell? ⟨R2, b, none⟩ = some vo) 12 (by kernel_rfl) ⟨xk, r0⟩ (fun hHeld => ?_)
                refine wpXt (v := ?_) 0 rfl (by kernel_rfl) (fun _ _ _ h => h) (by rfl) ?_ hHeld ?_
                rotate_left
                · intro w' hSw
                  go_simp <;> with_reducible rfl
                try simp only [Act.put, List.setIfInBounds_toArray, List.set_cons_zero, List.set_cons_succ]
                refine wpXt (v := ?_) 1 rfl (by kernel_rfl) (fun _ _ _ h => h) (by rfl) ?_ hHeld ?_
                rotate_left
                · intro w' hSw
                  go_simp <;> with_reducible rfl
                try simp only [Act.put, List.setIfInBounds_toArray, List.set_cons_zero, List.set_cons_succ]
                refine wpXt (v := ?_) 2 rfl (by kernel_rfl) (fun _ _ _ h => h) (by rfl) ?_ hHeld ?_
                rotate_left
                · intro w' hSw
                  go_simp <;> with_reducible rfl
                try simp only [Act.put, List.setIfInBounds_toArray, List.set_cons_zero, List.set_cons_succ]
                refine wpXt (v := ?_) 3 rfl (by kernel_rfl) (fun _ _ _ h => h) (by rfl) ?_ hHeld ?_
                rotate_left
                · intro w' hSw
                  go_simp <;> with_reducible rfl
                try simp only [Act.put, List.setIfInBounds_toArray, List.set_cons_zero, List.set_cons_succ]
                refine wpXt (v := ?_) 4 rfl (by kernel_rfl) (fun _ _ _ h => h) (by rfl) ?_ hHeld ?_
                rotate_left
                · intro w' hSw
                  go_simp <;> with_reducible rfl
                try simp only [Act.put, List.setIfInBounds_toArray, List.set_cons_zero, List.set_cons_succ]
                refine wpXt (v := ?_) 5 rfl (by kernel_rfl) (fun _ _ _ h => h) (by rfl) ?_ hHeld ?_
                rotate_left
                · intro w' hSw
                  go_simp <;> with_reducible rfl
                try simp only [Act.put, List.setIfInBounds_toArray, List.set_cons_zero, List.set_cons_succ]
                refine wpXt (v := ?_) 6 rfl (by kernel_rfl) (fun _ _ _ h => h) (by rfl) ?_ hHeld ?_
                rotate_left
                · intro w' hSw
                  go_simp <;> with_reducible rfl
                try simp only [Act.put, List.setIfInBounds_toArray, List.set_cons_zero, List.set_cons_succ]
                refine wpXt (v := ?_) 7 rfl (by kernel_rfl) (fun _ _ _ h => h) (by rfl) ?_ hHeld ?_
                rotate_left
                · intro w' hSw
                  go_simp <;> with_reducible rfl
                try simp only [Act.put, List.setIfInBounds_toArray, List.set_cons_zero, List.set_cons_succ]
                refine wpXt (v := ?_) 8 rfl (by kernel_rfl) (fun _ _ _ h => h) (by rfl) ?_ hHeld ?_
                rotate_left
                · intro w' hSw
                  go_simp <;> with_reducible rfl
                try simp only [Act.put, List.setIfInBounds_toArray, List.set_cons_zero, List.set_cons_succ]
                refine wpXs 9 rfl (by kernel_rfl) (fun K hK => ?_)
                go_simp
                refine hK.out _ _ ⟨cX, cR⟩ (fun hHeld => ?_)
                clear hK K
                try simp only [Act.put, List.setIfInBounds_toArray, List.set_cons_zero, List.set_cons_succ]
                refine wpXs 10 rfl (by kernel_rfl) (fun K hK => ?_)
                refine step_append_lies _ (by rfl) _ _ _ (by rfl) B 3 i3 _ 1 8 Try.underlying22 hi3 hz3 hz31 hz32 rfl (by omega) vo lo.length _ (by rfl) oA ⟨w5.heap.size, 0, none⟩ 1 1 [.int .i64 k] (by rfl) (by rfl) HNW.out h1c (by omega) (by unfold maxLen; omega) (by omega) (by simp; omega) (w5.heap.size + 1) (by simp) ?_
                intro gg cap2 wb2 hown1 hgrow hat2 hlt2
                have r0' := (hgrow.cell_far _ lR' nR).trans cR
                have rz' := (hgrow.frozen_far _ lR' nR).trans cZ
                have x0' := (hgrow.cell_far _ lX' nX).trans cX
                refine hK.out _ _ ⟨x0', r0'⟩ (fun hHeld => ?_)
                clear hK K
                try simp only [Act.put, List.setIfInBounds_toArray, List.set_cons_zero, List.set_cons_succ]
                refine wpXt (v := ?_) 11 rfl (by kernel_rfl) (fun _ _ _ h => h) (by rfl) ?_ hHeld ?_
                rotate_left
                · intro w' hSw
                  go_simp <;> with_reducible rfl
                try simp only [Act.put, List.setIfInBounds_toArray, List.set_cons_zero, List.set_cons_succ]
                refine wpXl 12 rfl (by kernel_rfl) rfl (by kernel_rfl) (fun K hK => ?_)
                go_simp
                refine hK.out _ _ ?_
                clear hK K
                have hbA : Below w5.heap.size w5 ((w5.alloc (.cells #[.int .i64 k] 3)).drew) := ((Below.refl _ _).alloc (Nat.le_refl _) _).drew
                have hat3 : (vs (n + b)).ownBlock = some gg ∨ w5.heap.size ≤ gg := by
                  rw [HVO.out]
                  rcases hat2 with h1 | h1
                  · exact Or.inl h1
                  · right; omega
                have hp2 := HS.out.push (t := n + b) (R := R2) (i := b) (by omega) hbA (by rw [HVO.out]; exact hgrow) (by rw [HLO.out]; exact hown1) hat3 (Or.inr ⟨by omega, rfl, by omega⟩)
                rw [HLO.out] at hp2

                have HX : Hid (SoS w N X B R1 R2 n (.slice av nv cv) (.slice ab n cb) (upV vs (n + b) (.slice (some ⟨gg, 0, none⟩) (lo.length + 1) cap2)) (LL n I O k (b + 1)) (wb2.setCell ⟨R2, b, none⟩ (.slice (some ⟨gg, 0, none⟩) (lo.length + 1) cap2)) ∧ (wb2.setCell ⟨R2, b, none⟩ (.slice (some ⟨gg, 0, none⟩) (lo.length + 1) cap2)).rowIs G 4 n (fun i => .bool (R i)) ∧ ∀ j, j < n + n → (upV vs (n + b) (.slice (some ⟨gg, 0, none⟩) (lo.length + 1) cap2) j).ownBlock ≠ some G) := by
                  obtain ⟨k1, k2⟩ := hp2.2 G HG5.out.1.lt HG5.out.2 (by have h1 := HS.out.t.l2; have h2 := HGB.out; omega)
                  refine ⟨hp2.1.congr fun i hi => ?_, HG5.out.1.of_block k1, k2⟩
                  rw [← LL_step n I O k b i hbn, HLL.out]
                  unfold upW
                  by_cases e : i = n + b
                  · rw [if_pos e, if_pos e, ← HLO.out, ← HLL.out, LL_nb n I O k b _ hbn, rowL_succ, if_pos HOB.out]
                  · rw [if_neg e, if_neg e]
                clear hp2 hbA hat3 HS hown1 hgrow hat2 r0' rz' x0' oA own
                go_wp2
                go_roundw
                case rel => exact ⟨b + 1, _, by go_num, by omega, HX⟩
                case measure => simp [intOf]; omega

          · have hbe : b = n := by omega
            have HX : Hid (SoS w N X B R1 R2 n (.slice av nv cv) (.slice ab n cb) vs (LL n I O (k + 1) 0) wr) := by
              have h := HI.out.1
              rw [hbe] at h
              exact h.congr fun i hi => LL_next n I O k i hi
            clear HI hbe
            go_wp2
            go_roundw
            case rel => exact ⟨k + 1, vs, by go_num, by omega, HX⟩
            case measure => simp [intOf]; omega
      · have hke : k = nv := by omega
        subst hke
        have hT2 := HS.out.t
        obtain ⟨d1, d2, d3, d4, d5, d6⟩ := HS.out.dN
        have x0 : wo.cell? ⟨X, 0, none⟩ = some (.slice (some ⟨R1, 0, none⟩) n n) := HS.out.sx.cell (i := 0) (by omega)
        have x1 : wo.cell? ⟨X, 1, none⟩ = some (.slice (some ⟨R2, 0, none⟩) n n) := HS.out.sx.cell (i := 1) (by omega)
        have lX := HS.out.sx.lt
        have r1 := HS.out.rs
        have s0 := r1.cell (i := 0) (by omega)
        have s1 := r1.cell (i := 1) (by omega)
        have z0 := r1.frozen 0
        have z1 := r1.frozen 1
        have lR := r1.lt
        have rr : ((wo.setCell ⟨N + 1 + 1, 0, none⟩ (.slice (some ⟨R1, 0, none⟩) n n)).setCell ⟨N + 1 + 1, 1, none⟩ (.slice (some ⟨R2, 0, none⟩) n n)).rowIs (N + 1 + 1) 31 2 (fun q => if q = 0 then .slice (some ⟨R1, 0, none⟩) n n else .slice (some ⟨R2, 0, none⟩) n n) := ((r1.set 0 _).set 1 _).congr fun i hi => by
          match i, hi with | 0, _ => rfl | 1, _ => rfl
        have s0' : ((wo.setCell ⟨N + 1 + 1, 0, none⟩ (.slice (some ⟨R1, 0, none⟩) n n)).setCell ⟨N + 1 + 1, 1, none⟩ (.slice (some ⟨R2, 0, none⟩) n n)).cell? ⟨N + 1 + 1, 0, none⟩ = some (.slice (some ⟨R1, 0, none⟩) n n) := rr.cell (i := 0) (by omega)
        have s1' : ((wo.setCell ⟨N + 1 + 1, 0, none⟩ (.slice (some ⟨R1, 0, none⟩) n n)).setCell ⟨N + 1 + 1, 1, none⟩ (.slice (some ⟨R2, 0, none⟩) n n)).cell? ⟨N + 1 + 1, 1, none⟩ = some (.slice (some ⟨R2, 0, none⟩) n n) := rr.cell (i := 1) (by omega)
        obtain ⟨v3, hv3⟩ : ∃ v3, v3 = (wo.setCell ⟨N + 1 + 1, 0, none⟩ (.slice (some ⟨R1, 0, none⟩) n n)).setCell ⟨N + 1 + 1, 1, none⟩ (.slice (some ⟨R2, 0, none⟩) n n) := ⟨_, rfl⟩
        rw [← hv3] at s0' s1'
        have HE : Hid (SlOf v3 1 (RRow v3) (.slice (some ⟨R1, 0, none⟩) n n) ((List.range n).map fun b => rowL k (I b)) ∧ SlOf v3 1 (RRow v3) (.slice (some ⟨R2, 0, none⟩) n n) ((List.range n).map fun b => rowL k (O b)) ∧ Below w.heap.size w v3) := by
          have hk3 : ∀ b, b ≠ N + 1 + 1 → v3.heap[b]? = wo.heap[b]? := fun b hb => by rw [hv3, Below.heap_setCell _ _ _ _ hb, Below.heap_setCell _ _ _ _ hb]
          have hs3 : v3.heap.size = wo.heap.size := by rw [hv3]; simp
          have T3 := hT2.keep (q := N + 1 + 1) hk3 (by omega) (by omega) (by omega) (by omega)
          obtain ⟨a1, a2⟩ := T3.sl hn16 fun i hi => by have := LL_few n I O k 0 i; unfold longest; omega
          have e1 : (List.range n).map (LL n I O k 0) = (List.range n).map fun b => rowL k (I b) := List.map_congr_left fun i hi => by
            have hi' : i < n := by simpa using hi
            unfold LL
            rw [if_pos hi', if_neg (by omega)]
          have e2 : ((List.range n).map fun i => LL n I O k 0 (n + i)) = (List.range n).map fun b => rowL k (O b) := List.map_congr_left fun i hi => by
            have hi' : i < n := by simpa using hi
            unfold LL
            rw [if_neg (by omega), if_neg (by omega), show n + i - n = i by omega]
          rw [e1] at a1
          rw [e2] at a2
          refine ⟨a1, a2, ?_⟩
          rw [hv3, HN.out]
          exact (HS.out.low.setCell (show N ≤ N + 1 + 1 by omega) _).setCell (show N ≤ N + 1 + 1 by omega) _
        have HV3 : Hid (v3 = (wo.setCell ⟨N + 1 + 1, 0, none⟩ (.slice (some ⟨R1, 0, none⟩) n n)).setCell ⟨N + 1 + 1, 1, none⟩ (.slice (some ⟨R2, 0, none⟩) n n)) := hv3
        clear hT2 d1 d2 d3 d4 d5 d6 r1 rr HS hv3
        go_wp2
        rw [← HV3.out]
        refine bodyPost_ret (v := .tuple #[.agg #[.slice (some ⟨R1, 0, none⟩) n n, .slice (some ⟨R2, 0, none⟩) n n], .int .i64 0]) (by simp [results, Try.results6, go_sem, s0', s1']) rfl ⟨R1, R2, rfl, HE.out⟩
end Go.Proofs.Ytfelpjgagglhiaa
