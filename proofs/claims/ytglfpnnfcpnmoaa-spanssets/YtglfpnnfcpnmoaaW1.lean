/-
  The mason's memory: which block of memory has which part, and that it reads as the plain mason.
  The mason's memory: an instruction more, an edge more, another block.
  The contract of the mason's 'value'.
  The contract of the mason's 'limit'.
  The contract of the mason's 'edge'.
-/
import Derived.Test.YtglfpnnfcpnmoaaB1
import Derived.Test.YtglfpnnfcpnmoaaA4
import Derived.Test.YtglfpnnfcpnmoaaA5
import Derived.BigQuiet
namespace Go.Proofs.Ytglfpnnfcpnmoaa
open Go.RowKit
set_option linter.unusedVariables false

/-- From w to w' just blocks of these roles are written; old blocks keep their role. -/
structure Only (S : Nat → Prop) (κ κ' : Nat → Nat) (w w' : World) : Prop where
  os : w'.os = w.os
  tape : w'.tape = w.tape
  output : w'.output = w.output
  size : w.heap.size ≤ w'.heap.size
  role : ∀ b, b < w.heap.size → κ' b = κ b
  block : ∀ b, b < w.heap.size → ¬ S (κ b) → w'.heap[b]? = w.heap[b]?
theorem Only.refl (S : Nat → Prop) (κ : Nat → Nat) (w : World) : Only S κ κ w w := ⟨rfl, rfl, rfl, Nat.le_refl _, fun _ _ => rfl, fun _ _ _ => rfl⟩
theorem Only.trans {S : Nat → Prop} {κ κ' κ'' : Nat → Nat} {w w' w'' : World} (h : Only S κ κ' w w') (k : Only S κ' κ'' w' w'') : Only S κ κ'' w w'' :=
  ⟨k.os.trans h.os, k.tape.trans h.tape, k.output.trans h.output, Nat.le_trans h.size k.size, fun b hb => (k.role b (Nat.lt_of_lt_of_le hb h.size)).trans (h.role b hb), fun b hb hs => (k.block b (Nat.lt_of_lt_of_le hb h.size) (by rw [h.role b hb]; exact hs)).trans (h.block b hb hs)⟩
theorem Only.mono {S T : Nat → Prop} {κ κ' : Nat → Nat} {w w' : World} (h : Only S κ κ' w w') (hs : ∀ r, S r → T r) : Only T κ κ' w w' :=
  ⟨h.os, h.tape, h.output, h.size, h.role, fun b hb hn => h.block b hb fun hh => hn (hs _ hh)⟩
theorem Only.of_below {S : Nat → Prop} {κ : Nat → Nat} {w w' : World} (h : Below w.heap.size w w') : Only S κ κ w w' := ⟨h.os, h.tape, h.output, h.size, fun _ _ => rfl, fun b hb _ => h.block b hb⟩
/-- Of new blocks any role may be said. -/
theorem Only.tag {S : Nat → Prop} {κ κ' κ'' : Nat → Nat} {w w' : World} (h : Only S κ κ' w w') (hk : ∀ b, b < w.heap.size → κ'' b = κ' b) : Only S κ κ'' w w' :=
  ⟨h.os, h.tape, h.output, h.size, fun b hb => (hk b hb).trans (h.role b hb), h.block⟩
theorem Only.alloc {S : Nat → Prop} {κ κ' : Nat → Nat} {w w' : World} (h : Only S κ κ' w w') (o : Obj) : Only S κ κ' w (w'.alloc o) :=
  ⟨h.os, h.tape, h.output, by have := h.size; simp; omega, h.role, fun b hb hs => (Below.heap_alloc _ _ _ (Nat.lt_of_lt_of_le hb h.size)).trans (h.block b hb hs)⟩
theorem Only.set {S : Nat → Prop} {κ κ' : Nat → Nat} {w w' : World} (h : Only S κ κ' w w') {a : Nat} (ha : w.heap.size ≤ a ∨ S (κ a)) (i : Nat) (v : Value) : Only S κ κ' w (w'.setCell ⟨a, i, none⟩ v) :=
  ⟨h.os, h.tape, h.output, by have := h.size; simpa [World.setCell] using this, h.role, fun b hb hs => by
    rw [Below.heap_setCell _ _ _ _ (fun e => by
      simp only at e
      rcases ha with h1 | h1
      · omega
      · exact hs (by rw [e]; exact h1))]
    exact h.block b hb hs⟩
theorem Only.drew {S : Nat → Prop} {κ κ' : Nat → Nat} {w w' : World} (h : Only S κ κ' w w') : Only S κ κ' w w'.drew := ⟨h.os, h.tape, h.output, h.size, h.role, h.block⟩
theorem Only.grown {S : Nat → Prop} {κ κ' : Nat → Nat} {w w' w'' : World} {row : Option Nat} (h : Only S κ κ' w w') (hg : w'.grownBy w'' row) (hr : ∀ k, row = some k → w.heap.size ≤ k ∨ S (κ k)) : Only S κ κ' w w'' :=
  ⟨hg.os.trans h.os, hg.tape.trans h.tape, hg.output.trans h.output, Nat.le_trans h.size hg.size, h.role, fun b hb hs => (hg.block b (Nat.lt_of_lt_of_le hb h.size) (fun e => by
    rcases hr b e.symm with h1 | h1
    · omega
    · exact hs h1)).trans (h.block b hb hs)⟩
theorem Only.below {S : Nat → Prop} {κ κ' : Nat → Nat} {w w' : World} (h : Only S κ κ' w w') {N : Nat} (hN : N ≤ w.heap.size) (hk : ∀ b, b < N → ¬ S (κ b)) : Below N w w' :=
  ⟨h.os, h.tape, h.output, h.size, fun b hb => h.block b (by omega) (hk b hb)⟩

/-- A slice that lies where nothing is written any more. -/
def SlK {α : Type} (κ : Nat → Nat) (w : World) (k : Nat) (R : List Value → α → Prop) (v : Value) (l : List α) : Prop := SlOf w k R v l ∧ (l = [] ∨ ∀ g, v.ownBlock = some g → κ g = 0 ∧ g < w.heap.size)
theorem SlK.nil {α : Type} (κ : Nat → Nat) (w : World) (k : Nat) (R : List Value → α → Prop) : SlK κ w k R (.slice none 0 0) [] := ⟨SlOf_nil _ _ _ _ _, Or.inl rfl⟩
theorem SlK.only {α : Type} {S : Nat → Prop} {κ κ' : Nat → Nat} {w w' : World} {k : Nat} {R : List Value → α → Prop} {v : Value} {l : List α} (h : SlK κ w k R v l) (ho : Only S κ κ' w w') (hS : ¬ S 0) : SlK κ' w' k R v l := by
  obtain ⟨⟨a, cap, hv, hl, h1⟩, hk⟩ := h
  by_cases hn : l = []
  · exact ⟨⟨a, cap, hv, hl, Or.inl hn⟩, Or.inl hn⟩
  · have hk' := hk.resolve_left hn
    refine ⟨⟨a, cap, hv, hl, h1.imp id ?_⟩, Or.inr fun g hg => ?_⟩
    · rintro ⟨b, off, ha, h2⟩
      refine ⟨b, off, ha, fun i hi => ?_⟩
      obtain ⟨cs, h3, h4, h5⟩ := h2 i hi
      have hb := hk' b (by rw [hv, ha]; rfl)
      refine ⟨cs, h3, h4, fun j hj => ?_⟩
      rw [World.cell?_of_block (w := w) (w' := w') (a := ⟨b, off + i * k + j, none⟩) (ho.block b hb.2 (by rw [hb.1]; exact hS))]
      exact h5 j hj
    · have h0 := hk' g hg
      exact ⟨by rw [ho.role g h0.2]; exact h0.1, Nat.lt_of_lt_of_le h0.2 ho.size⟩
/-- What one owns is kept where its role is not written. -/
theorem own_only {S : Nat → Prop} {κ κ' : Nat → Nat} {w w' : World} {base e k n r : Nat} {v : Value} {xs : List Value} (h : w.ownsRow base e k v n xs) (hr : ∀ g, v.ownBlock = some g → κ g = r) (ho : Only S κ κ' w w') (hS : ¬ S r) : w'.ownsRow base e k v n xs ∧ ∀ g, v.ownBlock = some g → κ' g = r :=
  ⟨own_keep h fun g hg _ hlt => ho.block g hlt (by rw [hr g hg]; exact hS), fun g hg => by rw [ho.role g (own_base h hg).2]; exact hr g hg⟩

def cX (p : Ins × Value × Value) : List Value := [.int .i64 p.1.op, p.2.1, p.2.2]
def cE (p : Edg × Value) : List Value := [.int .i64 p.1.block, p.2]
def c3 (x : Value × Value × Value) : List Value := [x.1, x.2.1, x.2.2]
/-- A block of the function lies there. -/
structure BlkS (N : Nat) (κ : Nat → Nat) (w : World) (j : Nat) (x : Value × Value × Value) (b : Blk) : Prop where
  par : SlK κ w 1 RInt x.1 b.params
  ins : ∃ L : List (Ins × Value × Value), L.map (·.1) = b.instrs ∧ w.ownsRow N 44 3 x.2.1 L.length (L.flatMap cX) ∧ ∀ p ∈ L, SlK κ w 5 ROpr p.2.1 p.1.operands ∧ SlK κ w 2 RRg p.2.2 p.1.spoils
  ki : ∀ g, x.2.1.ownBlock = some g → κ g = 6 + 2 * j
  edg : ∃ L : List (Edg × Value), L.map (·.1) = b.edges ∧ w.ownsRow N 92 2 x.2.2 L.length (L.flatMap cE) ∧ ∀ p ∈ L, SlK κ w 1 RInt p.2 p.1.args
  ke : ∀ g, x.2.2.ownBlock = some g → κ g = 7 + 2 * j
theorem BlkS.only {S : Nat → Prop} {N : Nat} {κ κ' : Nat → Nat} {w w' : World} {j : Nat} {x : Value × Value × Value} {b : Blk} (h : BlkS N κ w j x b) (ho : Only S κ κ' w w') (h0 : ¬ S 0) (h1 : ¬ S (6 + 2 * j)) (h2 : ¬ S (7 + 2 * j)) : BlkS N κ' w' j x b := by
  obtain ⟨par, ⟨L, l1, l2, l3⟩, ki, ⟨M, m1, m2, m3⟩, ke⟩ := h
  have hi := own_only l2 ki ho h1
  have he := own_only m2 ke ho h2
  exact ⟨par.only ho h0, ⟨L, l1, hi.1, fun p hp => ⟨(l3 p hp).1.only ho h0, (l3 p hp).2.only ho h0⟩⟩, hi.2, ⟨M, m1, he.1, fun p hp => (m3 p hp).only ho h0⟩, he.2⟩

def masonRow (s : Ms) (vv vb vk : Value) (al : Int) (q : Nat) : Value := ([.int .i64 s.m0, .int .i64 s.m1, vv, vb, .int .i64 s.cur, vk, .int .i64 al] : List Value).getD q (.int .i64 0)
/-- The mason lies at P. Roles: 0 what nobody writes, 1 the mason, 2 values, 3 known, 4 blocks, 5 what a call has for itself, then two for each block. -/
structure MaS (N : Nat) (κ : Nat → Nat) (w : World) (P : Nat) (s : Ms) (vv vb vk : Value) (al : Int) (bx : Nat → Value × Value × Value) : Prop where
  row : w.rowIs P 59 7 (masonRow s vv vb vk al)
  kP : κ P = 1
  ov : w.ownsRow N 3 1 vv s.f.values.length (s.f.values.flatMap cI)
  kv : ∀ g, vv.ownBlock = some g → κ g = 2
  ok : w.ownsRow N 3 1 vk s.known.length (s.known.flatMap cI)
  kk : ∀ g, vk.ownBlock = some g → κ g = 3
  ob : w.ownsRow N 40 3 vb s.f.blocks.length ((List.range s.f.blocks.length).flatMap fun j => c3 (bx j))
  kb : ∀ g, vb.ownBlock = some g → κ g = 4
  blk : ∀ j (h : j < s.f.blocks.length), BlkS N κ w j (bx j) s.f.blocks[j]
  fresh : ∀ b, w.heap.size ≤ b → κ b = 0
  lowN : ∀ b, b < N → κ b = 0
  szN : N ≤ w.heap.size

/-- What a call does with its own memory leaves the mason as he is. -/
theorem MaS.only {N : Nat} {κ κ' : Nat → Nat} {w w' : World} {P : Nat} {s : Ms} {vv vb vk : Value} {al : Int} {bx : Nat → Value × Value × Value} (h : MaS N κ w P s vv vb vk al bx) (ho : Only (fun r => r = 5) κ κ' w w') (hf : ∀ b, w'.heap.size ≤ b → κ' b = 0) : MaS N κ' w' P s vv vb vk al bx := by
  have hPl := h.row.lt
  have o1 := own_only h.ov h.kv ho (by omega)
  have o2 := own_only h.ok h.kk ho (by omega)
  have o3 := own_only h.ob h.kb ho (by omega)
  exact ⟨h.row.of_block (ho.block P hPl (by rw [h.kP]; omega)), by rw [ho.role P hPl]; exact h.kP, o1.1, o1.2, o2.1, o2.2, o3.1, o3.2, fun j hj => (h.blk j hj).only ho (by omega) (by omega) (by omega), hf, fun b hb => by rw [ho.role b (by have := h.szN; omega)]; exact h.lowN b hb, Nat.le_trans h.szN ho.size⟩
/-- New blocks may be told to be of any role that is none of the mason's. -/
theorem MaS.below {N : Nat} {κ : Nat → Nat} {w w' : World} {P : Nat} {s : Ms} {vv vb vk : Value} {al : Int} {bx : Nat → Value × Value × Value} (h : MaS N κ w P s vv vb vk al bx) (hb : Below w.heap.size w w') : MaS N κ w' P s vv vb vk al bx :=
  h.only (Only.of_below hb) fun b hb' => h.fresh b (Nat.le_trans hb.size hb')

def upK (κ : Nat → Nat) (g r : Nat) : Nat → Nat := fun b => if b = g then r else κ b
/-- Where a row was appended to: the row's block has its role. -/
theorem upK_old {κ : Nat → Nat} {g r M : Nat} (hg : (g < M ∧ κ g = r) ∨ M ≤ g) : ∀ b, b < M → upK κ g r b = κ b := fun b hb => by
  unfold upK
  split
  · rename_i e
    rcases hg with h | h
    · rw [e, h.2]
    · omega
  · rfl

theorem row_set {w : World} {P t : Nat} {s s' : Ms} {vv vb vk vv' vb' vk' : Value} {al al' : Int} (h : w.rowIs P t 7 (masonRow s vv vb vk al)) (i : Nat) (u : Value) (e : ∀ q, q < 7 → (if q = i then u else masonRow s vv vb vk al q) = masonRow s' vv' vb' vk' al' q) : (w.setCell ⟨P, i, none⟩ u).rowIs P t 7 (masonRow s' vv' vb' vk' al') := (h.set i u).congr e

section
variable {N : Nat} {κ : Nat → Nat} {w wa w1 : World} {P : Nat} {s : Ms} {vv vb vk : Value} {al : Int} {bx : Nat → Value × Value × Value} {g cap : Nat}

/-- A value more. -/
theorem MaS.pushV {c : Int} (h : MaS N κ w P s vv vb vk al bx) (hwa : Below w.heap.size w wa) (hgrow : wa.grownBy w1 vv.ownBlock)
    (hown : w1.ownsRow N 3 1 (.slice (some ⟨g, 0, none⟩) (s.f.values.length + 1) cap) (s.f.values.length + 1) (s.f.values.flatMap cI ++ [.int .i64 c])) (hat : vv.ownBlock = some g ∨ g = wa.heap.size) :
    MaS N (upK κ g 2) (w1.setCell ⟨P, 2, none⟩ (.slice (some ⟨g, 0, none⟩) (s.f.values.length + 1) cap)) P { s with f := ⟨s.f.values ++ [c], s.f.blocks⟩ } (.slice (some ⟨g, 0, none⟩) (s.f.values.length + 1) cap) vb vk al bx ∧
    Only (fun r => r = 1 ∨ r = 2) κ (upK κ g 2) w (w1.setCell ⟨P, 2, none⟩ (.slice (some ⟨g, 0, none⟩) (s.f.values.length + 1) cap)) := by
  have hPl := h.row.lt
  have hza := hwa.size
  have hz1 := hgrow.size
  have hg : (g < w.heap.size ∧ κ g = 2) ∨ w.heap.size ≤ g := by
    rcases hat with e | e
    · exact Or.inl ⟨(own_base h.ov e).2, h.kv g e⟩
    · right; omega
  have hgl : g < w1.heap.size := (own_base hown (g := g) rfl).2
  have o1 : Only (fun r => r = 1 ∨ r = 2) κ (upK κ g 2) w w1 := ((Only.of_below hwa).grown hgrow fun k hk => Or.inr (by rw [h.kv k hk]; omega)).tag (upK_old hg)
  have ho := o1.set (a := P) (Or.inr (by rw [h.kP]; omega)) 2 (.slice (some ⟨g, 0, none⟩) (s.f.values.length + 1) cap)
  have hgP : P ≠ g := fun e => by
    rcases hg with h1 | h1
    · rw [← e, h.kP] at h1; omega
    · omega
  have o2 := own_only h.ok h.kk ho (by omega)
  have o3 := own_only h.ob h.kb ho (by omega)
  refine ⟨⟨row_set (h.row.of_block ?_) 2 _ fun q hq => ?_, ?_, ?_, fun g' hg' => ?_, o2.1, o2.2, o3.1, o3.2, fun j hj => (h.blk j hj).only ho (by omega) (by omega) (by omega), fun b hb => ?_, fun b hb => ?_, Nat.le_trans h.szN ho.size⟩, ho⟩
  · exact (hgrow.block P (by omega) fun e => by have := h.kv P e.symm; rw [h.kP] at this; omega).trans (hwa.block P hPl)
  · match q, hq with | 0, _ => rfl | 1, _ => rfl | 2, _ => rfl | 3, _ => rfl | 4, _ => rfl | 5, _ => rfl | 6, _ => rfl
  · rw [ho.role P hPl]; exact h.kP
  · simp only [List.length_append, List.length_singleton, List.flatMap_append]
    exact own_keep hown fun b hb _ _ => Below.heap_setCell _ _ _ _ (by simp [Value.ownBlock] at hb; simp; omega)
  · simp [Value.ownBlock] at hg'
    simp [upK, hg']
  · have hb' : w1.heap.size ≤ b := by simpa [World.setCell] using hb
    unfold upK
    rw [if_neg (by omega)]
    exact h.fresh b (by omega)
  · rw [upK_old hg b (by have := h.szN; omega)]
    exact h.lowN b hb
/-- What is known, said anew or more of it: the row lies in a block of its own. -/
theorem MaS.putK {kn : List Int} {m : Nat} (h : MaS N κ w P s vv vb vk al bx) {row : Option Nat} (hwa : Below w.heap.size w wa) (hgrow : wa.grownBy w1 row) (hrow : ∀ k, row = some k → vk.ownBlock = some k)
    (hown : w1.ownsRow N 3 1 (.slice (some ⟨g, 0, none⟩) m cap) m (kn.flatMap cI)) (hm : kn.length = m) (hat : row = some g ∨ g = wa.heap.size) :
    MaS N (upK κ g 3) (w1.setCell ⟨P, 5, none⟩ (.slice (some ⟨g, 0, none⟩) m cap)) P { s with known := kn } vv vb (.slice (some ⟨g, 0, none⟩) m cap) al bx ∧
    Only (fun r => r = 1 ∨ r = 3) κ (upK κ g 3) w (w1.setCell ⟨P, 5, none⟩ (.slice (some ⟨g, 0, none⟩) m cap)) := by
  subst hm
  have hPl := h.row.lt
  have hza := hwa.size
  have hz1 := hgrow.size
  have hg : (g < w.heap.size ∧ κ g = 3) ∨ w.heap.size ≤ g := by
    rcases hat with e | e
    · exact Or.inl ⟨(own_base h.ok (hrow g e)).2, h.kk g (hrow g e)⟩
    · right; omega
  have hgl : g < w1.heap.size := (own_base hown (g := g) rfl).2
  have o1 : Only (fun r => r = 1 ∨ r = 3) κ (upK κ g 3) w w1 := ((Only.of_below hwa).grown hgrow fun k hk => Or.inr (by rw [h.kk k (hrow k hk)]; omega)).tag (upK_old hg)
  have ho := o1.set (a := P) (Or.inr (by rw [h.kP]; omega)) 5 (.slice (some ⟨g, 0, none⟩) kn.length cap)
  have hgP : P ≠ g := fun e => by
    rcases hg with h1 | h1
    · rw [← e, h.kP] at h1; omega
    · omega
  have o2 := own_only h.ov h.kv ho (by omega)
  have o3 := own_only h.ob h.kb ho (by omega)
  refine ⟨⟨row_set (h.row.of_block ?_) 5 _ fun q hq => ?_, ?_, o2.1, o2.2, ?_, fun g' hg' => ?_, o3.1, o3.2, fun j hj => (h.blk j hj).only ho (by omega) (by omega) (by omega), fun b hb => ?_, fun b hb => ?_, Nat.le_trans h.szN ho.size⟩, ho⟩
  · exact (hgrow.block P (by omega) fun e => by have := h.kk P (hrow P e.symm); rw [h.kP] at this; omega).trans (hwa.block P hPl)
  · match q, hq with | 0, _ => rfl | 1, _ => rfl | 2, _ => rfl | 3, _ => rfl | 4, _ => rfl | 5, _ => rfl | 6, _ => rfl
  · rw [ho.role P hPl]; exact h.kP
  · exact own_keep hown fun b hb _ _ => Below.heap_setCell _ _ _ _ (by simp [Value.ownBlock] at hb; simp; omega)
  · simp [Value.ownBlock] at hg'
    simp [upK, hg']
  · have hb' : w1.heap.size ≤ b := by simpa [World.setCell] using hb
    unfold upK
    rw [if_neg (by omega)]
    exact h.fresh b (by omega)
  · rw [upK_old hg b (by have := h.szN; omega)]
    exact h.lowN b hb
/-- A block more. -/
theorem MaS.pushB {vp : Value} {ps : List Int} (h : MaS N κ w P s vv vb vk al bx) (hwa : Below w.heap.size w wa) (hgrow : wa.grownBy w1 vb.ownBlock)
    (hown : w1.ownsRow N 40 3 (.slice (some ⟨g, 0, none⟩) (s.f.blocks.length + 1) cap) (s.f.blocks.length + 1) (((List.range s.f.blocks.length).flatMap fun j => c3 (bx j)) ++ [vp, .slice none 0 0, .slice none 0 0])) (hat : vb.ownBlock = some g ∨ g = wa.heap.size) (hp : SlK κ w 1 RInt vp ps) :
    MaS N (upK κ g 4) (w1.setCell ⟨P, 3, none⟩ (.slice (some ⟨g, 0, none⟩) (s.f.blocks.length + 1) cap)) P { s with f := ⟨s.f.values, s.f.blocks ++ [⟨ps, [], []⟩]⟩ } vv (.slice (some ⟨g, 0, none⟩) (s.f.blocks.length + 1) cap) vk al (fun j => if j = s.f.blocks.length then (vp, .slice none 0 0, .slice none 0 0) else bx j) ∧
    Only (fun r => r = 1 ∨ r = 4) κ (upK κ g 4) w (w1.setCell ⟨P, 3, none⟩ (.slice (some ⟨g, 0, none⟩) (s.f.blocks.length + 1) cap)) := by
  have hPl := h.row.lt
  have hza := hwa.size
  have hz1 := hgrow.size
  have hg : (g < w.heap.size ∧ κ g = 4) ∨ w.heap.size ≤ g := by
    rcases hat with e | e
    · exact Or.inl ⟨(own_base h.ob e).2, h.kb g e⟩
    · right; omega
  have hgl : g < w1.heap.size := (own_base hown (g := g) rfl).2
  have o1 : Only (fun r => r = 1 ∨ r = 4) κ (upK κ g 4) w w1 := ((Only.of_below hwa).grown hgrow fun k hk => Or.inr (by rw [h.kb k hk]; omega)).tag (upK_old hg)
  have ho := o1.set (a := P) (Or.inr (by rw [h.kP]; omega)) 3 (.slice (some ⟨g, 0, none⟩) (s.f.blocks.length + 1) cap)
  have hgP : P ≠ g := fun e => by
    rcases hg with h1 | h1
    · rw [← e, h.kP] at h1; omega
    · omega
  have o2 := own_only h.ov h.kv ho (by omega)
  have o3 := own_only h.ok h.kk ho (by omega)
  refine ⟨⟨row_set (h.row.of_block ?_) 3 _ fun q hq => ?_, ?_, o2.1, o2.2, o3.1, o3.2, ?_, fun g' hg' => ?_, fun j hj => ?_, fun b hb => ?_, fun b hb => ?_, Nat.le_trans h.szN ho.size⟩, ho⟩
  · exact (hgrow.block P (by omega) fun e => by have := h.kb P e.symm; rw [h.kP] at this; omega).trans (hwa.block P hPl)
  · match q, hq with | 0, _ => rfl | 1, _ => rfl | 2, _ => rfl | 3, _ => rfl | 4, _ => rfl | 5, _ => rfl | 6, _ => rfl
  · rw [ho.role P hPl]; exact h.kP
  · simp only [List.length_append, List.length_singleton, List.range_succ, List.flatMap_append]
    have e : ((List.range s.f.blocks.length).flatMap fun j => c3 (if j = s.f.blocks.length then (vp, .slice none 0 0, .slice none 0 0) else bx j)) = (List.range s.f.blocks.length).flatMap fun j => c3 (bx j) := by
      simp only [List.flatMap_def]
      congr 1
      exact List.map_congr_left fun k hk => by rw [if_neg (by have := List.mem_range.1 hk; omega)]
    rw [e]
    have e2 : ([s.f.blocks.length].flatMap fun j => c3 (if j = s.f.blocks.length then (vp, .slice none 0 0, .slice none 0 0) else bx j)) = [vp, .slice none 0 0, .slice none 0 0] := by simp [c3]
    rw [e2]
    exact own_keep hown fun b hb _ _ => Below.heap_setCell _ _ _ _ (by simp [Value.ownBlock] at hb; simp; omega)
  · simp [Value.ownBlock] at hg'
    simp [upK, hg']
  · simp only [List.length_append, List.length_singleton] at hj
    by_cases e : j = s.f.blocks.length
    · subst e
      simp only [if_true, List.getElem_append_right (Nat.le_refl _), Nat.sub_self, List.getElem_cons_zero]
      exact ⟨hp.only ho (by omega), ⟨[], rfl, World.ownsRow_nil _ _ _ _, by simp⟩, fun g hg => by simp [Value.ownBlock] at hg, ⟨[], rfl, World.ownsRow_nil _ _ _ _, by simp⟩, fun g hg => by simp [Value.ownBlock] at hg⟩
    · have hj' : j < s.f.blocks.length := by omega
      simp only [if_neg e, List.getElem_append_left hj']
      exact (h.blk j hj').only ho (by omega) (by omega) (by omega)
  · have hb' : w1.heap.size ≤ b := by simpa [World.setCell] using hb
    unfold upK
    rw [if_neg (by omega)]
    exact h.fresh b (by omega)
  · rw [upK_old hg b (by have := h.szN; omega)]
    exact h.lowN b hb
theorem own_set3 {w : World} {base e k n g cap : Nat} {xs : List Value} (h : w.ownsRow base e k (.slice (some ⟨g, 0, none⟩) n cap) n xs) (i : Nat) (u : Value) : (w.setCell ⟨g, i, none⟩ u).ownsRow base e k (.slice (some ⟨g, 0, none⟩) n cap) n (xs.set i u) := by
  obtain ⟨hlen, h⟩ := h
  refine ⟨by simpa using hlen, ?_⟩
  rcases h with ⟨h0, _⟩ | ⟨g', cap', cur, hv, hb, hg, hnc, hc, hcs, htake⟩
  · simp at h0
  · simp only [Value.slice.injEq, Option.some.injEq, Addr.mk.injEq] at hv
    obtain ⟨⟨rfl, _, _⟩, _, rfl⟩ := hv
    refine Or.inr ⟨g, cap, cur.setIfInBounds i u, rfl, hb, ?_, hnc, hc, by simpa using hcs, ?_⟩
    · simp [World.setCell, Array.getElem?_modify, hg]
    · rw [Array.toList_setIfInBounds, List.take_set, htake]
theorem c3_len (x : Value × Value × Value) : (c3 x).length = 3 := rfl
theorem flat3_set (F : Nat → Value × Value × Value) (u : Value) (q : Nat) (hq : q < 3) (G : Value × Value × Value → Value × Value × Value) (hG : ∀ x, c3 (G x) = (c3 x).set q u) (j : Nat) : ∀ n, j < n → ((List.range n).flatMap fun i => c3 (F i)).set (j * 3 + q) u = (List.range n).flatMap fun i => c3 (if i = j then G (F i) else F i)
  | 0, h => by omega
  | n + 1, h => by
    rw [List.range_succ, List.flatMap_append, List.flatMap_append]
    have hl : ((List.range n).flatMap fun i => c3 (F i)).length = n * 3 := by rw [flat_length _ 3 (fun _ => rfl), List.length_range]
    by_cases e : j = n
    · subst e
      rw [List.set_append_right _ _ (by omega), hl]
      congr 1
      · simp only [List.flatMap_def]
        congr 1
        exact List.map_congr_left fun k hk => by rw [if_neg (by have := List.mem_range.1 hk; omega)]
      · have e2 : j * 3 + q - j * 3 = q := by omega
        rw [e2]
        simp [hG]
    · rw [List.set_append_left _ _ (by omega), flat3_set F u q hq G hG j n (by omega)]
      congr 1
      simp [show ¬ n = j by omega]
theorem own_cell {w : World} {base e k n g cap : Nat} {xs : List Value} (h : w.ownsRow base e k (.slice (some ⟨g, 0, none⟩) n cap) n xs) (i : Nat) (u : Value) (hi : xs[i]? = some u) : w.cell? ⟨g, i, none⟩ = some u ∧ w.frozen? ⟨g, i, none⟩ = false := by
  obtain ⟨hlen, h⟩ := h
  rcases h with ⟨h0, _⟩ | ⟨g', cap', cur, hv, hb, hg, hnc, hc, hcs, htake⟩
  · simp at h0
  · simp only [Value.slice.injEq, Option.some.injEq, Addr.mk.injEq] at hv
    obtain ⟨⟨rfl, _, _⟩, _, rfl⟩ := hv
    rw [← htake, List.getElem?_take] at hi
    split at hi
    · refine ⟨?_, by simp [World.frozen?, hg]⟩
      simp only [World.cell?, hg]
      simpa using hi
    · cases hi
end
end Go.Proofs.Ytglfpnnfcpnmoaa
namespace Go.Proofs.Ytglfpnnfcpnmoaa
open Go.RowKit
set_option linter.unusedVariables false

section
variable {N : Nat} {κ : Nat → Nat} {w wa w1 : World} {P : Nat} {s : Ms} {vv vk : Value} {al : Int} {bx : Nat → Value × Value × Value} {g cap gb cb : Nat}

def setI (bx : Nat → Value × Value × Value) (j : Nat) (u : Value) : Nat → Value × Value × Value := fun i => if i = j then ((bx i).1, u, (bx i).2.2) else bx i
def setE (bx : Nat → Value × Value × Value) (j : Nat) (u : Value) : Nat → Value × Value × Value := fun i => if i = j then ((bx i).1, (bx i).2.1, u) else bx i

/-- An instruction more in block j. -/
theorem MaS.pushI {j : Nat} {x : Ins} {vo vs : Value} (h : MaS N κ w P s vv (.slice (some ⟨gb, 0, none⟩) s.f.blocks.length cb) vk al bx) (hj : j < s.f.blocks.length) (hwa : Below w.heap.size w wa) (hgrow : wa.grownBy w1 (bx j).2.1.ownBlock)
    (L : List (Ins × Value × Value)) (hL : L.map (·.1) = s.f.blocks[j].instrs) (hLs : ∀ p ∈ L, SlK κ w 5 ROpr p.2.1 p.1.operands ∧ SlK κ w 2 RRg p.2.2 p.1.spoils)
    (hown : w1.ownsRow N 44 3 (.slice (some ⟨g, 0, none⟩) (L.length + 1) cap) (L.length + 1) (L.flatMap cX ++ [.int .i64 x.op, vo, vs])) (hat : (bx j).2.1.ownBlock = some g ∨ g = wa.heap.size) (ho : SlK κ w 5 ROpr vo x.operands) (hs : SlK κ w 2 RRg vs x.spoils) :
    MaS N (upK κ g (6 + 2 * j)) (w1.setCell ⟨gb, j * 3 + 1, none⟩ (.slice (some ⟨g, 0, none⟩) (L.length + 1) cap)) P { s with f := ⟨s.f.values, setBlk s.f.blocks j (addI x)⟩ } vv (.slice (some ⟨gb, 0, none⟩) s.f.blocks.length cb) vk al (setI bx j (.slice (some ⟨g, 0, none⟩) (L.length + 1) cap)) ∧
    Only (fun r => r = 4 ∨ r = 6 + 2 * j) κ (upK κ g (6 + 2 * j)) w (w1.setCell ⟨gb, j * 3 + 1, none⟩ (.slice (some ⟨g, 0, none⟩) (L.length + 1) cap)) := by
  have hB := h.blk j hj
  have hPl := h.row.lt
  have hza := hwa.size
  have hz1 := hgrow.size
  obtain ⟨L0, hL0, hown0, _⟩ := hB.ins
  have hg : (g < w.heap.size ∧ κ g = 6 + 2 * j) ∨ w.heap.size ≤ g := by
    rcases hat with e | e
    · exact Or.inl ⟨(own_base hown0 e).2, hB.ki g e⟩
    · right; omega
  have hgl : g < w1.heap.size := (own_base hown (g := g) rfl).2
  have kgb : κ gb = 4 := h.kb gb rfl
  have lgb : gb < w.heap.size := (own_base h.ob (g := gb) rfl).2
  have o1 : Only (fun r => r = 4 ∨ r = 6 + 2 * j) κ (upK κ g (6 + 2 * j)) w w1 := ((Only.of_below hwa).grown hgrow fun k hk => Or.inr (by rw [hB.ki k hk]; omega)).tag (upK_old hg)
  have hO := o1.set (a := gb) (Or.inr (by rw [kgb]; omega)) (j * 3 + 1) (.slice (some ⟨g, 0, none⟩) (L.length + 1) cap)
  have hgb : gb ≠ g := fun e => by
    rcases hg with h1 | h1
    · rw [← e, kgb] at h1; omega
    · omega
  have o2 := own_only h.ov h.kv hO (by omega)
  have o3 := own_only h.ok h.kk hO (by omega)
  have hgbB : some gb ≠ (bx j).2.1.ownBlock := fun e => by have := hB.ki gb e.symm; rw [kgb] at this; omega
  refine ⟨⟨h.row.of_block (hO.block P hPl (by rw [h.kP]; omega)), by rw [hO.role P hPl]; exact h.kP, o2.1, o2.2, o3.1, o3.2, ?_, fun g' hg' => ?_, fun i hi => ?_, fun b hb => ?_, fun b hb => ?_, Nat.le_trans h.szN hO.size⟩, hO⟩
  · have hob1 : w1.ownsRow N 40 3 (.slice (some ⟨gb, 0, none⟩) s.f.blocks.length cb) s.f.blocks.length ((List.range s.f.blocks.length).flatMap fun j => c3 (bx j)) := own_keep h.ob fun b hb _ hlt => by
      simp [Value.ownBlock] at hb
      subst hb
      exact (hgrow.block gb (by omega) hgbB).trans (hwa.block gb hlt)
    have := own_set3 hob1 (j * 3 + 1) (.slice (some ⟨g, 0, none⟩) (L.length + 1) cap)
    rw [flat3_set bx _ 1 (by omega) (fun x => (x.1, .slice (some ⟨g, 0, none⟩) (L.length + 1) cap, x.2.2)) (fun _ => rfl) j s.f.blocks.length hj] at this
    simp only [setBlk_len]
    exact this
  · simp [Value.ownBlock] at hg'
    rw [hO.role g' (by rw [← hg']; exact lgb), ← hg']
    exact kgb
  · simp only [setBlk_len] at hi
    simp only [setBlk_eq _ _ _ hj]
    by_cases e : i = j
    · subst e
      have eb : setI bx i (.slice (some ⟨g, 0, none⟩) (L.length + 1) cap) i = ((bx i).1, .slice (some ⟨g, 0, none⟩) (L.length + 1) cap, (bx i).2.2) := by simp [setI]
      rw [List.getElem_set_self, eb]
      obtain ⟨M, m1, m2, m3⟩ := hB.edg
      have he := own_only m2 hB.ke hO (by omega)
      refine ⟨hB.par.only hO (by omega), ⟨L ++ [(x, vo, vs)], by simp [hL, addI], ?_, fun p hp => ?_⟩, fun g' hg' => ?_, ⟨M, m1, he.1, fun p hp => (m3 p hp).only hO (by omega)⟩, he.2⟩
      · rw [List.length_append, List.length_singleton, List.flatMap_append]
        exact own_keep hown fun b hb _ _ => Below.heap_setCell _ _ _ _ (by simp [Value.ownBlock] at hb; simp; omega)
      · rcases List.mem_append.1 hp with hp | hp
        · exact ⟨(hLs p hp).1.only hO (by omega), (hLs p hp).2.only hO (by omega)⟩
        · rw [List.mem_singleton.1 hp]
          exact ⟨ho.only hO (by omega), hs.only hO (by omega)⟩
      · simp [Value.ownBlock] at hg'
        simp [upK, hg']
    · have eb : setI bx j (.slice (some ⟨g, 0, none⟩) (L.length + 1) cap) i = bx i := by simp [setI, e]
      rw [List.getElem_set_ne (fun h => e h.symm), eb]
      exact (h.blk i hi).only hO (by omega) (by omega) (by omega)
  · have hb' : w1.heap.size ≤ b := by simpa [World.setCell] using hb
    unfold upK
    rw [if_neg (by omega)]
    exact h.fresh b (by omega)
  · rw [upK_old hg b (by have := h.szN; omega)]
    exact h.lowN b hb
/-- An edge more from block j. -/
theorem MaS.pushE {j : Nat} {x : Edg} {va : Value} (h : MaS N κ w P s vv (.slice (some ⟨gb, 0, none⟩) s.f.blocks.length cb) vk al bx) (hj : j < s.f.blocks.length) (hwa : Below w.heap.size w wa) (hgrow : wa.grownBy w1 (bx j).2.2.ownBlock)
    (L : List (Edg × Value)) (hL : L.map (·.1) = s.f.blocks[j].edges) (hLs : ∀ p ∈ L, SlK κ w 1 RInt p.2 p.1.args)
    (hown : w1.ownsRow N 92 2 (.slice (some ⟨g, 0, none⟩) (L.length + 1) cap) (L.length + 1) (L.flatMap cE ++ [.int .i64 x.block, va])) (hat : (bx j).2.2.ownBlock = some g ∨ g = wa.heap.size) (ha : SlK κ w 1 RInt va x.args) :
    MaS N (upK κ g (7 + 2 * j)) (w1.setCell ⟨gb, j * 3 + 2, none⟩ (.slice (some ⟨g, 0, none⟩) (L.length + 1) cap)) P { s with f := ⟨s.f.values, setBlk s.f.blocks j (addE x)⟩ } vv (.slice (some ⟨gb, 0, none⟩) s.f.blocks.length cb) vk al (setE bx j (.slice (some ⟨g, 0, none⟩) (L.length + 1) cap)) ∧
    Only (fun r => r = 4 ∨ r = 7 + 2 * j) κ (upK κ g (7 + 2 * j)) w (w1.setCell ⟨gb, j * 3 + 2, none⟩ (.slice (some ⟨g, 0, none⟩) (L.length + 1) cap)) := by
  have hB := h.blk j hj
  have hPl := h.row.lt
  have hza := hwa.size
  have hz1 := hgrow.size
  obtain ⟨L0, hL0, hown0, _⟩ := hB.edg
  have hg : (g < w.heap.size ∧ κ g = 7 + 2 * j) ∨ w.heap.size ≤ g := by
    rcases hat with e | e
    · exact Or.inl ⟨(own_base hown0 e).2, hB.ke g e⟩
    · right; omega
  have hgl : g < w1.heap.size := (own_base hown (g := g) rfl).2
  have kgb : κ gb = 4 := h.kb gb rfl
  have lgb : gb < w.heap.size := (own_base h.ob (g := gb) rfl).2
  have o1 : Only (fun r => r = 4 ∨ r = 7 + 2 * j) κ (upK κ g (7 + 2 * j)) w w1 := ((Only.of_below hwa).grown hgrow fun k hk => Or.inr (by rw [hB.ke k hk]; omega)).tag (upK_old hg)
  have hO := o1.set (a := gb) (Or.inr (by rw [kgb]; omega)) (j * 3 + 2) (.slice (some ⟨g, 0, none⟩) (L.length + 1) cap)
  have hgb : gb ≠ g := fun e => by
    rcases hg with h1 | h1
    · rw [← e, kgb] at h1; omega
    · omega
  have o2 := own_only h.ov h.kv hO (by omega)
  have o3 := own_only h.ok h.kk hO (by omega)
  have hgbB : some gb ≠ (bx j).2.2.ownBlock := fun e => by have := hB.ke gb e.symm; rw [kgb] at this; omega
  refine ⟨⟨h.row.of_block (hO.block P hPl (by rw [h.kP]; omega)), by rw [hO.role P hPl]; exact h.kP, o2.1, o2.2, o3.1, o3.2, ?_, fun g' hg' => ?_, fun i hi => ?_, fun b hb => ?_, fun b hb => ?_, Nat.le_trans h.szN hO.size⟩, hO⟩
  · have hob1 : w1.ownsRow N 40 3 (.slice (some ⟨gb, 0, none⟩) s.f.blocks.length cb) s.f.blocks.length ((List.range s.f.blocks.length).flatMap fun j => c3 (bx j)) := own_keep h.ob fun b hb _ hlt => by
      simp [Value.ownBlock] at hb
      subst hb
      exact (hgrow.block gb (by omega) hgbB).trans (hwa.block gb hlt)
    have := own_set3 hob1 (j * 3 + 2) (.slice (some ⟨g, 0, none⟩) (L.length + 1) cap)
    rw [flat3_set bx _ 2 (by omega) (fun x => (x.1, x.2.1, .slice (some ⟨g, 0, none⟩) (L.length + 1) cap)) (fun _ => rfl) j s.f.blocks.length hj] at this
    simp only [setBlk_len]
    exact this
  · simp [Value.ownBlock] at hg'
    rw [hO.role g' (by rw [← hg']; exact lgb), ← hg']
    exact kgb
  · simp only [setBlk_len] at hi
    simp only [setBlk_eq _ _ _ hj]
    by_cases e : i = j
    · subst e
      have eb : setE bx i (.slice (some ⟨g, 0, none⟩) (L.length + 1) cap) i = ((bx i).1, (bx i).2.1, .slice (some ⟨g, 0, none⟩) (L.length + 1) cap) := by simp [setE]
      rw [List.getElem_set_self, eb]
      obtain ⟨M, m1, m2, m3⟩ := hB.ins
      have he := own_only m2 hB.ki hO (by omega)
      refine ⟨hB.par.only hO (by omega), ⟨M, m1, he.1, fun p hp => ⟨(m3 p hp).1.only hO (by omega), (m3 p hp).2.only hO (by omega)⟩⟩, he.2, ⟨L ++ [(x, va)], by simp [hL, addE], ?_, fun p hp => ?_⟩, fun g' hg' => ?_⟩
      · rw [List.length_append, List.length_singleton, List.flatMap_append]
        exact own_keep hown fun b hb _ _ => Below.heap_setCell _ _ _ _ (by simp [Value.ownBlock] at hb; simp; omega)
      · rcases List.mem_append.1 hp with hp | hp
        · exact (hLs p hp).only hO (by omega)
        · rw [List.mem_singleton.1 hp]
          exact ha.only hO (by omega)
      · simp [Value.ownBlock] at hg'
        simp [upK, hg']
    · have eb : setE bx j (.slice (some ⟨g, 0, none⟩) (L.length + 1) cap) i = bx i := by simp [setE, e]
      rw [List.getElem_set_ne (fun h => e h.symm), eb]
      exact (h.blk i hi).only hO (by omega) (by omega) (by omega)
  · have hb' : w1.heap.size ≤ b := by simpa [World.setCell] using hb
    unfold upK
    rw [if_neg (by omega)]
    exact h.fresh b (by omega)
  · rw [upK_old hg b (by have := h.szN; omega)]
    exact h.lowN b hb
/-- A field of the mason that is a number. -/
theorem MaS.setF {vb : Value} {s' : Ms} {al' : Int} (h : MaS N κ w P s vv vb vk al bx) (i : Nat) (u : Value) (hf : s'.f = s.f) (hk : s'.known = s.known) (e : ∀ q, q < 7 → (if q = i then u else masonRow s vv vb vk al q) = masonRow s' vv vb vk al' q) :
    MaS N κ (w.setCell ⟨P, i, none⟩ u) P s' vv vb vk al' bx ∧ Only (fun r => r = 1) κ κ w (w.setCell ⟨P, i, none⟩ u) := by
  have hPl := h.row.lt
  have hO : Only (fun r => r = 1) κ κ w (w.setCell ⟨P, i, none⟩ u) := (Only.refl _ _ _).set (Or.inr h.kP) i u
  have o1 := own_only h.ov h.kv hO (by omega)
  have o2 := own_only h.ok h.kk hO (by omega)
  have o3 := own_only h.ob h.kb hO (by omega)
  refine ⟨⟨row_set h.row i u e, h.kP, by rw [hf]; exact o1.1, o1.2, by rw [hk]; exact o2.1, o2.2, by rw [hf]; exact o3.1, o3.2, fun j hj => ?_, fun b hb => h.fresh b (by simpa [World.setCell] using hb), h.lowN, Nat.le_trans h.szN hO.size⟩, hO⟩
  simp only [hf] at hj ⊢
  exact (h.blk j hj).only hO (by omega) (by omega) (by omega)
theorem MaS.setCur {vb : Value} (h : MaS N κ w P s vv vb vk al bx) (c : Nat) : MaS N κ (w.setCell ⟨P, 4, none⟩ (.int .i64 c)) P { s with cur := c } vv vb vk al bx ∧ Only (fun r => r = 1) κ κ w (w.setCell ⟨P, 4, none⟩ (.int .i64 c)) :=
  h.setF 4 _ rfl rfl fun q hq => by match q, hq with | 0, _ => rfl | 1, _ => rfl | 2, _ => rfl | 3, _ => rfl | 4, _ => rfl | 5, _ => rfl | 6, _ => rfl
theorem MaS.setAll {vb : Value} (h : MaS N κ w P s vv vb vk al bx) (c : Int) : MaS N κ (w.setCell ⟨P, 6, none⟩ (.int .i64 c)) P s vv vb vk c bx ∧ Only (fun r => r = 1) κ κ w (w.setCell ⟨P, 6, none⟩ (.int .i64 c)) :=
  h.setF 6 _ rfl rfl fun q hq => by match q, hq with | 0, _ => rfl | 1, _ => rfl | 2, _ => rfl | 3, _ => rfl | 4, _ => rfl | 5, _ => rfl | 6, _ => rfl
theorem MaS.cells {vb : Value} (h : MaS N κ w P s vv vb vk al bx) : w.cell? ⟨P, 0, none⟩ = some (.int .i64 s.m0) ∧ w.cell? ⟨P, 1, none⟩ = some (.int .i64 s.m1) ∧ w.cell? ⟨P, 2, none⟩ = some vv ∧ w.cell? ⟨P, 3, none⟩ = some vb ∧ w.cell? ⟨P, 4, none⟩ = some (.int .i64 s.cur) ∧ w.cell? ⟨P, 5, none⟩ = some vk ∧ w.cell? ⟨P, 6, none⟩ = some (.int .i64 al) :=
  ⟨h.row.cell (i := 0) (by omega), h.row.cell (i := 1) (by omega), h.row.cell (i := 2) (by omega), h.row.cell (i := 3) (by omega), h.row.cell (i := 4) (by omega), h.row.cell (i := 5) (by omega), h.row.cell (i := 6) (by omega)⟩
end
end Go.Proofs.Ytglfpnnfcpnmoaa
namespace Go.Proofs.Ytglfpnnfcpnmoaa
open Go.RowKit
set_option linter.unusedVariables false

theorem newsG {w : World} {ob : Obj} {cs : Array Value} {t : Nat} (h : ob = .cells cs t) : ∀ j u, cs.toList[j]? = some u → (w.alloc ob).cell? ((⟨w.heap.size, 0, none⟩ : Addr).add j) = some u := by
  subst h
  exact World.news_of_block (cs := cs) (t := t) (fr := (0, 0)) (heap_alloc_new w _)
theorem infoMI : (Try.prog.info? 3).map (fun i => (i.zero, i.size, i.bytes)) = some (some (.int .i64 0), 1, 8) := by kernel_rfl

/-- The mason is there. -/
def MaO (N : Nat) (κ : Nat → Nat) (w : World) (P : Nat) (s : Ms) : Prop := ∃ vv vb vk al bx, MaS N κ w P s vv vb vk al bx

set_option maxHeartbeats 2000000 in
theorem value_any (N : Nat) (κ : Nat → Nat) (w : World) (P : Nat) (s : Ms) (c : Int) (h : MaO N κ w P s) (hl : s.f.values.length ≤ 100000) :
    Calls Try.prog 23 #[.pointer (some ⟨P, 0, none⟩), .int .i64 c] w fun e w' => e = .returned (.int .i64 s.f.values.length) ∧ ∃ κ', MaO N κ' w' P { s with f := ⟨s.f.values ++ [c], s.f.blocks⟩ } ∧ Only (fun r => r = 1 ∨ r = 2) κ κ' w w' := by
  obtain ⟨i3, hi3, hz3, hz31, hz32⟩ := info_parts infoMI
  obtain ⟨vv, vb, vk, al, bx, h⟩ := h
  have HS : Hid (MaS N κ w P s vv vb vk al bx) := h
  have o1 := h.cells.2.2.1
  have oz := h.row.frozen 2
  have ol := h.row.lt
  have oA := h.ov.alloc (.cells #[.int .i64 c] 3)
  have nP : some P ≠ vv.ownBlock := fun e => by have := h.kv P e.symm; rw [h.kP] at this; omega
  have hsz := h.szN
  clear h
  generalize hn : s.f.values.length = n at *
  have HN : Hid (s.f.values.length = n) := hn
  clear hn
  go_enter Try.func23, Try.ntmps23
  go_wp2_with (at_builtin; go_must (refine wpList_append_lies _ rfl _ _ 27 rfl N 3 i3 (.int .i64 0) 1 8 Try.underlying27 hi3 hz3 hz31 hz32 rfl (by omega) vv n _ (by rfl) oA ⟨w.heap.size, 0, none⟩ 1 1 [.int .i64 c] (by rfl) (by rfl) ?c1 ?c2 (by omega) ?c3 ?c4 ?c5 (w.heap.size + 1) ?c6 ?_))
  rotate_left
  any_goals (first | (exact newsG rfl) | rfl | (show Value.oneCell' _ = true; simp [Value.oneCell']) | (intro u hu; simp at hu; subst hu; rfl) | (unfold maxLen; omega) | omega | (simp; omega) | (simp; rfl) | (simp; done))
  intro g cap wb hown hgrow hat hgl
  have hn := HN.out
  subst hn
  have hP := HS.out.pushV (c := c) ((Below.refl _ _).alloc (Nat.le_refl _) (.cells #[.int .i64 c] 3)) hgrow hown (by simpa using hat)
  have HP : Hid (MaO N (upK κ g 2) (wb.setCell ⟨P, 2, none⟩ (.slice (some ⟨g, 0, none⟩) (s.f.values.length + 1) cap)) P { s with f := ⟨s.f.values ++ [c], s.f.blocks⟩ } ∧ Only (fun r => r = 1 ∨ r = 2) κ (upK κ g 2) w (wb.setCell ⟨P, 2, none⟩ (.slice (some ⟨g, 0, none⟩) (s.f.values.length + 1) cap))) := ⟨⟨_, _, _, _, _, hP.1⟩, hP.2⟩
  have c2 := hP.1.cells.2.2.1
  have LP := old_cell P
  have lP' : P < (w.alloc (.cells #[.int .i64 c] 3)).heap.size := by simp; omega
  have o1' := (hgrow.cell_far ⟨P, 2, none⟩ lP' nP).trans ((LP _ _ _ ol).trans o1)
  have oz' := (hgrow.frozen_far ⟨P, 2, none⟩ lP' nP).trans ((frozen?_alloc_cells _ _ _ _).trans oz)
  clear hP hown hgrow hat hgl oA o1 oz LP
  go_wp2
  go_ret
  exact ⟨ret_int (by omega), _, HP.out.1, HP.out.2⟩
end Go.Proofs.Ytglfpnnfcpnmoaa
namespace Go.Proofs.Ytglfpnnfcpnmoaa
open Go.RowKit
set_option linter.unusedVariables false

/-- What is needed and fixed of each class lies in two rows. -/
structure NF (w : World) (Nd Fx : Nat) (need fixed : Int × Int) : Prop where
  rn : w.rowIs Nd 3 2 (fun i => .int .i64 (get2 need i))
  rf : w.rowIs Fx 3 2 (fun i => .int .i64 (get2 fixed i))
  ne : Nd ≠ Fx
/-- Just two blocks are written. -/
structure Two (Nd Fx : Nat) (w w' : World) : Prop where
  os : w'.os = w.os
  tape : w'.tape = w.tape
  output : w'.output = w.output
  size : w'.heap.size = w.heap.size
  block : ∀ b, b ≠ Nd → b ≠ Fx → w'.heap[b]? = w.heap[b]?
theorem Two.refl (Nd Fx : Nat) (w : World) : Two Nd Fx w w := ⟨rfl, rfl, rfl, rfl, fun _ _ _ => rfl⟩
theorem Two.drewN {Nd Fx : Nat} {w w' : World} (h : Two Nd Fx w w') (n : Nat) : Two Nd Fx w (w'.drewN n) := ⟨h.os, h.tape, h.output, h.size, h.block⟩
theorem Two.set {Nd Fx : Nat} {w w' : World} (h : Two Nd Fx w w') (a i : Nat) (v : Value) (ha : a = Nd ∨ a = Fx) : Two Nd Fx w (w'.setCell ⟨a, i, none⟩ v) :=
  ⟨h.os, h.tape, h.output, by simpa [World.setCell] using h.size, fun b h1 h2 => (Below.heap_setCell _ _ _ _ (by simp; omega)).trans (h.block b h1 h2)⟩
theorem NF.drewN {w : World} {Nd Fx : Nat} {need fixed : Int × Int} (h : NF w Nd Fx need fixed) (n : Nat) : NF (w.drewN n) Nd Fx need fixed := ⟨h.rn, h.rf, h.ne⟩
theorem NF.need {w : World} {Nd Fx : Nat} {need fixed : Int × Int} (h : NF w Nd Fx need fixed) (c : Nat) (hc : c < 2) : NF (w.setCell ⟨Nd, c, none⟩ (.int .i64 (get2 need c + 1))) Nd Fx (inc2 need c) fixed := by
  refine ⟨(h.rn.set c _).congr fun j hj => ?_, h.rf.setOther (by simp; exact fun e => h.ne e.symm) _, h.ne⟩
  have hj' : j = 0 ∨ j = 1 := by omega
  have hc' : c = 0 ∨ c = 1 := by omega
  rcases hj' with rfl | rfl <;> rcases hc' with rfl | rfl <;> simp [get2, inc2]
theorem NF.fixed {w : World} {Nd Fx : Nat} {need fixed : Int × Int} (h : NF w Nd Fx need fixed) (c : Nat) (hc : c < 2) : NF (w.setCell ⟨Fx, c, none⟩ (.int .i64 (get2 fixed c + 1))) Nd Fx need (inc2 fixed c) := by
  refine ⟨h.rn.setOther (by simp; exact h.ne) _, (h.rf.set c _).congr fun j hj => ?_, h.ne⟩
  have hj' : j = 0 ∨ j = 1 := by omega
  have hc' : c = 0 ∨ c = 1 := by omega
  rcases hj' with rfl | rfl <;> rcases hc' with rfl | rfl <;> simp [get2, inc2]
theorem NF.off {w w' : World} {Nd Fx : Nat} {need fixed : Int × Int} (h : NF w Nd Fx need fixed) (h1 : w'.heap[Nd]? = w.heap[Nd]?) (h2 : w'.heap[Fx]? = w.heap[Fx]?) : NF w' Nd Fx need fixed := ⟨h.rn.of_block h1, h.rf.of_block h2, h.ne⟩
theorem ret_two {a b a' b' : Int} (h : a = a') (k : b = b') : Ending.returned (.tuple #[.int .i64 a, .int .i64 b]) = .returned (.tuple #[.int .i64 a', .int .i64 b']) := by rw [h, k]


set_option maxHeartbeats 4000000 in
theorem limit_0 (P Nd Fx : Nat) (m0 m1 wish : Int) (need fixed : Int × Int) (r : Int × Int × (Int × Int) × (Int × Int)) (hr : limitM m0 m1 wish 0 need fixed = r) (w : World) (hw : 1 ≤ wish ∧ wish ≤ 4) (hm : m0 ≤ 10) (h : NF w Nd Fx need fixed) (hn : 0 ≤ get2 need 0 ∧ get2 need 0 ≤ 100) (hf : 0 ≤ get2 fixed 0 ∧ get2 fixed 0 ≤ 100) (hp : w.cell? ⟨P, 0, none⟩ = some (.int .i64 m0)) (hPN : P ≠ Nd) (hPF : P ≠ Fx) :
    Calls Try.prog 34 #[.pointer (some ⟨P, 0, none⟩), .int .i64 wish, .int .i64 0, .slice (some ⟨Nd, 0, none⟩) 2 2, .slice (some ⟨Fx, 0, none⟩) 2 2] w fun e w' => e = .returned (.tuple #[.int .i64 r.1, .int .i64 r.2.1]) ∧ NF w' Nd Fx r.2.2.1 r.2.2.2 ∧ Two Nd Fx w w' := by
  have HS : Hid (NF w Nd Fx need fixed) := h
  have c1 : w.cell? ⟨Nd, 0, none⟩ = some (.int .i64 (get2 need 0)) := h.rn.cell (i := 0) (by omega)
  have c2 : w.cell? ⟨Fx, 0, none⟩ = some (.int .i64 (get2 fixed 0)) := h.rf.cell (i := 0) (by omega)
  have z1 := h.rn.frozen 0
  have z2 := h.rf.frozen 0
  have hne := h.ne
  have hne' : Fx ≠ Nd := fun e => h.ne e.symm
  have n0 := hn.1
  have n1 := hn.2
  have f0 := hf.1
  have f1 := hf.2
  clear h hn hf
  obtain ⟨nd, hnd⟩ : ∃ nd, get2 need 0 = nd := ⟨_, rfl⟩
  obtain ⟨fx, hfx⟩ : ∃ fx, get2 fixed 0 = fx := ⟨_, rfl⟩
  rw [hnd] at n0 n1 c1
  rw [hfx] at f0 f1 c2
  have HND : Hid (get2 need 0 = nd) := hnd
  have HFX : Hid (get2 fixed 0 = fx) := hfx
  have HR : Hid (limitM m0 m1 wish 0 need fixed = r) := hr
  clear hnd hfx hr
  by_cases h1 : wish = 1
  · subst h1
    have HRr : Hid (r = (1, 0, need, fixed)) := by show r = _; rw [← HR.out]; simp [limitM]
    clear HR HND HFX
    go_enter Try.func34, Try.ntmps34
    go_wp2_with fail
    go_quiet (fail)
    go_wp2
    go_ret2
    rw [HRr.out]
    exact ⟨rfl, HS.out.drewN _, (Two.refl _ _ _).drewN _⟩
  · by_cases h3 : wish = 3
    · subst h3
      have HRr : Hid (r = (3, 0, need, fixed)) := by show r = _; rw [← HR.out]; simp [limitM]
      clear HR HND HFX h1
      go_enter Try.func34, Try.ntmps34
      go_wp2_with fail
      go_quiet (fail)
      go_wp2
      go_ret2
      rw [HRr.out]
      exact ⟨rfl, HS.out.drewN _, (Two.refl _ _ _).drewN _⟩
    · have e1 : (wish == 1) = false := by simp [h1]
      have e3 : (wish == 3) = false := by simp [h3]
      by_cases hf : m0 ≤ nd + 1
      · have ef : decide (m0 ≤ nd + 1) = true := by simp [hf]
        have HRr : Hid (r = (1, 0, need, fixed)) := by
          show r = _
          rw [← HR.out]
          unfold limitM
          rw [if_pos (Or.inr (Or.inr (by rw [HND.out]; simpa [regsOf] using hf))), if_neg h3]
        clear HR HND HFX hf h1 h3
        go_enter Try.func34, Try.ntmps34
        go_wp2_with fail
        go_quiet (fail)
        go_wp2
        go_ret2
        rw [HRr.out]
        exact ⟨rfl, HS.out.drewN _, (Two.refl _ _ _).drewN _⟩
      · have ef : decide (m0 ≤ nd + 1) = false := by simp; omega
        have hnf : ¬ (wish = 1 ∨ wish = 3 ∨ regsOf m0 m1 0 ≤ get2 need 0 + 1) := by
          rw [HND.out]
          simp [h1, h3, regsOf]
          omega
        by_cases h4 : wish = 4
        · have HRr : Hid (r = (4, fx, inc2 need 0, inc2 fixed 0)) := by
            show r = _
            rw [← HR.out]
            unfold limitM
            rw [if_neg hnf, if_pos h4, HFX.out]
          subst h4
          clear HR hf h1 h3 hnf
          go_enter Try.func34, Try.ntmps34
          go_wp2_with fail
          go_quiet (fail)
          revert nq
          intro nq1
          go_wp2_with fail
          go_quiet (fail)
          go_wp2
          go_ret2
          rw [HRr.out]
          have e1 : get2 need (((0 : Nat)) : Int) = nd := HND.out
          have e2 : get2 fixed (((0 : Nat)) : Int) = fx := HFX.out
          refine ⟨ret_two rfl (by simp), ?_, ?_⟩
          · have h1 := ((HS.out.drewN nq1).need 0 (by omega)).fixed 0 (by omega)
            rw [e1, e2] at h1
            exact h1.drewN _
          · exact ((((Two.refl _ _ _).drewN _).set Nd 0 _ (Or.inl rfl)).set Fx 0 _ (Or.inr rfl)).drewN _
        · have HRr : Hid (r = (2, 0, inc2 need 0, fixed)) := by
            show r = _
            rw [← HR.out]
            unfold limitM
            rw [if_neg hnf, if_neg h4]
          have e4 : (wish == 4) = false := by simp [h4]
          clear HR hf h1 h3 hnf h4
          go_enter Try.func34, Try.ntmps34
          go_wp2_with fail
          go_quiet (fail)
          revert nq
          intro nq1
          go_wp2
          go_ret2
          rw [HRr.out]
          have e1 : get2 need (((0 : Nat)) : Int) = nd := HND.out
          have h1 := (HS.out.drewN nq1).need 0 (by omega)
          rw [e1] at h1
          exact ⟨rfl, h1, ((Two.refl _ _ _).drewN _).set Nd 0 _ (Or.inl rfl)⟩

set_option maxHeartbeats 4000000 in
theorem limit_1 (P Nd Fx : Nat) (m0 m1 wish : Int) (need fixed : Int × Int) (r : Int × Int × (Int × Int) × (Int × Int)) (hr : limitM m0 m1 wish 1 need fixed = r) (w : World) (hw : 1 ≤ wish ∧ wish ≤ 4) (hm : m1 ≤ 10) (h : NF w Nd Fx need fixed) (hn : 0 ≤ get2 need 1 ∧ get2 need 1 ≤ 100) (hf : 0 ≤ get2 fixed 1 ∧ get2 fixed 1 ≤ 100) (hp : w.cell? ⟨P, 1, none⟩ = some (.int .i64 m1)) (hPN : P ≠ Nd) (hPF : P ≠ Fx) :
    Calls Try.prog 34 #[.pointer (some ⟨P, 0, none⟩), .int .i64 wish, .int .i64 1, .slice (some ⟨Nd, 0, none⟩) 2 2, .slice (some ⟨Fx, 0, none⟩) 2 2] w fun e w' => e = .returned (.tuple #[.int .i64 r.1, .int .i64 r.2.1]) ∧ NF w' Nd Fx r.2.2.1 r.2.2.2 ∧ Two Nd Fx w w' := by
  have HS : Hid (NF w Nd Fx need fixed) := h
  have c1 : w.cell? ⟨Nd, 1, none⟩ = some (.int .i64 (get2 need 1)) := h.rn.cell (i := 1) (by omega)
  have c2 : w.cell? ⟨Fx, 1, none⟩ = some (.int .i64 (get2 fixed 1)) := h.rf.cell (i := 1) (by omega)
  have z1 := h.rn.frozen 1
  have z2 := h.rf.frozen 1
  have hne := h.ne
  have hne' : Fx ≠ Nd := fun e => h.ne e.symm
  have n0 := hn.1
  have n1 := hn.2
  have f0 := hf.1
  have f1 := hf.2
  clear h hn hf
  obtain ⟨nd, hnd⟩ : ∃ nd, get2 need 1 = nd := ⟨_, rfl⟩
  obtain ⟨fx, hfx⟩ : ∃ fx, get2 fixed 1 = fx := ⟨_, rfl⟩
  rw [hnd] at n0 n1 c1
  rw [hfx] at f0 f1 c2
  have HND : Hid (get2 need 1 = nd) := hnd
  have HFX : Hid (get2 fixed 1 = fx) := hfx
  have HR : Hid (limitM m0 m1 wish 1 need fixed = r) := hr
  clear hnd hfx hr
  by_cases h1 : wish = 1
  · subst h1
    have HRr : Hid (r = (1, 0, need, fixed)) := by show r = _; rw [← HR.out]; simp [limitM]
    clear HR HND HFX
    go_enter Try.func34, Try.ntmps34
    go_wp2_with fail
    go_quiet (fail)
    go_wp2
    go_ret2
    rw [HRr.out]
    exact ⟨rfl, HS.out.drewN _, (Two.refl _ _ _).drewN _⟩
  · by_cases h3 : wish = 3
    · subst h3
      have HRr : Hid (r = (3, 0, need, fixed)) := by show r = _; rw [← HR.out]; simp [limitM]
      clear HR HND HFX h1
      go_enter Try.func34, Try.ntmps34
      go_wp2_with fail
      go_quiet (fail)
      go_wp2
      go_ret2
      rw [HRr.out]
      exact ⟨rfl, HS.out.drewN _, (Two.refl _ _ _).drewN _⟩
    · have e1 : (wish == 1) = false := by simp [h1]
      have e3 : (wish == 3) = false := by simp [h3]
      by_cases hf : m1 ≤ nd + 1
      · have ef : decide (m1 ≤ nd + 1) = true := by simp [hf]
        have HRr : Hid (r = (1, 0, need, fixed)) := by
          show r = _
          rw [← HR.out]
          unfold limitM
          rw [if_pos (Or.inr (Or.inr (by rw [HND.out]; simpa [regsOf] using hf))), if_neg h3]
        clear HR HND HFX hf h1 h3
        go_enter Try.func34, Try.ntmps34
        go_wp2_with fail
        go_quiet (fail)
        go_wp2
        go_ret2
        rw [HRr.out]
        exact ⟨rfl, HS.out.drewN _, (Two.refl _ _ _).drewN _⟩
      · have ef : decide (m1 ≤ nd + 1) = false := by simp; omega
        have hnf : ¬ (wish = 1 ∨ wish = 3 ∨ regsOf m0 m1 1 ≤ get2 need 1 + 1) := by
          rw [HND.out]
          simp [h1, h3, regsOf]
          omega
        by_cases h4 : wish = 4
        · have HRr : Hid (r = (4, fx, inc2 need 1, inc2 fixed 1)) := by
            show r = _
            rw [← HR.out]
            unfold limitM
            rw [if_neg hnf, if_pos h4, HFX.out]
          subst h4
          clear HR hf h1 h3 hnf
          go_enter Try.func34, Try.ntmps34
          go_wp2_with fail
          go_quiet (fail)
          revert nq
          intro nq1
          go_wp2_with fail
          go_quiet (fail)
          go_wp2
          go_ret2
          rw [HRr.out]
          have e1 : get2 need (((1 : Nat)) : Int) = nd := HND.out
          have e2 : get2 fixed (((1 : Nat)) : Int) = fx := HFX.out
          refine ⟨ret_two rfl (by simp), ?_, ?_⟩
          · have h1 := ((HS.out.drewN nq1).need 1 (by omega)).fixed 1 (by omega)
            rw [e1, e2] at h1
            exact h1.drewN _
          · exact ((((Two.refl _ _ _).drewN _).set Nd 1 _ (Or.inl rfl)).set Fx 1 _ (Or.inr rfl)).drewN _
        · have HRr : Hid (r = (2, 0, inc2 need 1, fixed)) := by
            show r = _
            rw [← HR.out]
            unfold limitM
            rw [if_neg hnf, if_neg h4]
          have e4 : (wish == 4) = false := by simp [h4]
          clear HR hf h1 h3 hnf h4
          go_enter Try.func34, Try.ntmps34
          go_wp2_with fail
          go_quiet (fail)
          revert nq
          intro nq1
          go_wp2
          go_ret2
          rw [HRr.out]
          have e1 : get2 need (((1 : Nat)) : Int) = nd := HND.out
          have h1 := (HS.out.drewN nq1).need 1 (by omega)
          rw [e1] at h1
          exact ⟨rfl, h1, ((Two.refl _ _ _).drewN _).set Nd 1 _ (Or.inl rfl)⟩
end Go.Proofs.Ytglfpnnfcpnmoaa
namespace Go.Proofs.Ytglfpnnfcpnmoaa
open Go.RowKit
set_option linter.unusedVariables false

theorem infoMB : (Try.prog.info? 40).map (fun i => (i.zero, i.size, i.bytes)) = some (some (.agg #[.slice none 0 0, .slice none 0 0, .slice none 0 0]), 3, 72) := by kernel_rfl
theorem infoMX : (Try.prog.info? 44).map (fun i => (i.zero, i.size, i.bytes)) = some (some (.agg #[.int .i64 0, .slice none 0 0, .slice none 0 0]), 3, 56) := by kernel_rfl
theorem infoME : (Try.prog.info? 92).map (fun i => (i.zero, i.size, i.bytes)) = some (some (.agg #[.int .i64 0, .slice none 0 0]), 2, 32) := by kernel_rfl
theorem infoMO : (Try.prog.info? 46).map (fun i => (i.zero, i.size, i.bytes)) = some (some (.agg #[.int .i64 0, .int .i64 0, .bool false, .int .i64 0, .int .i64 0]), 5, 40) := by kernel_rfl
theorem infoMR : (Try.prog.info? 97).map (fun i => (i.zero, i.size, i.bytes)) = some (some (.agg #[.int .i64 0, .int .i64 0]), 2, 16) := by kernel_rfl

/-- The mason's own roles. -/
def MR (r : Nat) : Prop := r ≠ 0 ∧ r ≠ 5
theorem MR0 : ¬ MR 0 := fun h => h.1 rfl
theorem MR5 : ¬ MR 5 := fun h => h.2 rfl

/-- The cells of block j. -/
theorem MaS.at {N : Nat} {κ : Nat → Nat} {w : World} {P gb cb : Nat} {s : Ms} {vv vk : Value} {al : Int} {bx : Nat → Value × Value × Value} (h : MaS N κ w P s vv (.slice (some ⟨gb, 0, none⟩) s.f.blocks.length cb) vk al bx) (j : Nat) (hj : j < s.f.blocks.length) :
    w.cell? ⟨gb, j * 3, none⟩ = some (bx j).1 ∧ w.cell? ⟨gb, j * 3 + 1, none⟩ = some (bx j).2.1 ∧ w.cell? ⟨gb, j * 3 + 2, none⟩ = some (bx j).2.2 ∧ ∀ o, o < 3 → w.frozen? ⟨gb, j * 3 + o, none⟩ = false := by
  have key : ∀ o u, o < 3 → (c3 (bx j))[o]? = some u → w.cell? ⟨gb, j * 3 + o, none⟩ = some u ∧ w.frozen? ⟨gb, j * 3 + o, none⟩ = false := fun o u ho hu => by
    refine own_cell h.ob (j * 3 + o) u ?_
    rw [flat_at (fun j => c3 (bx j)) 3 (fun _ => rfl) (List.range s.f.blocks.length) j o (by simpa using hj) ho]
    simpa using hu
  refine ⟨(key 0 _ (by omega) rfl).1, (key 1 _ (by omega) rfl).1, (key 2 _ (by omega) rfl).1, fun o ho => ?_⟩
  match o, ho with
  | 0, _ => exact (key 0 _ (by omega) rfl).2
  | 1, _ => exact (key 1 _ (by omega) rfl).2
  | 2, _ => exact (key 2 _ (by omega) rfl).2

set_option maxHeartbeats 4000000 in
theorem ma_edge (N : Nat) (κ : Nat → Nat) (w : World) (P : Nat) (s : Ms) (src dst : Nat) (va : Value) (args : List Int) (h : MaO N κ w P s) (hs : src < s.f.blocks.length) (ha : SlK κ w 1 RInt va args) (hb : s.f.blocks.length ≤ 1000) (he : s.f.blocks[src].edges.length ≤ 1000) (hd : dst ≤ 1000) :
    Calls Try.prog 24 #[.pointer (some ⟨P, 0, none⟩), .int .i64 src, .int .i64 dst, va] w fun e w' => e = .returned (.tuple #[]) ∧ ∃ κ', MaO N κ' w' P (edgeM s src dst args) ∧ Only MR κ κ' w w' := by
  obtain ⟨i3, hi3, hz3, hz31, hz32⟩ := info_parts infoME
  obtain ⟨vv, vb, vk, al, bx, h⟩ := h
  obtain ⟨gb, cb, rfl, hgN, hgl⟩ := h.ob.form (by omega)
  obtain ⟨aa, ca, rfl, hal⟩ := ha.1.out
  unfold longest at hal
  have HS : Hid (MaS N κ w P s vv (.slice (some ⟨gb, 0, none⟩) s.f.blocks.length cb) vk al bx) := h
  have HA : Hid (SlK κ w 1 RInt (.slice aa args.length ca) args) := ha
  obtain ⟨L, hL, hLo, hLs⟩ := (h.blk src hs).edg
  have hLl : L.length = s.f.blocks[src].edges.length := by rw [← hL]; simp
  have HL : Hid (L.map (·.1) = s.f.blocks[src].edges ∧ ∀ p ∈ L, SlK κ w 1 RInt p.2 p.1.args) := ⟨hL, hLs⟩
  have p3 := h.cells.2.2.2.1
  have q2 := (h.at src hs).2.2.1
  have qz := (h.at src hs).2.2.2 2 (by omega)
  have nB : some gb ≠ (bx src).2.2.ownBlock := fun e => by have := (h.blk src hs).ke gb e.symm; rw [h.kb gb rfl] at this; omega
  have hsz := h.szN
  have ol := h.row.lt
  have oA := hLo.alloc (.cells #[.int .i64 dst, .slice aa args.length ca] 92)
  clear h ha hL hLs hLo
  have hL1 : L.length ≤ 1000 := by omega
  generalize hve : (bx src).2.2 = ve at *
  have HVE : Hid ((bx src).2.2 = ve) := hve
  clear hve hLl he
  generalize hna : args.length = na at *
  have HNA : Hid (args.length = na) := hna
  clear hna
  generalize hln : L.length = n at *
  have HLN : Hid (L.length = n) := hln
  clear hln
  go_enter Try.func24, Try.ntmps24
  go_wp2_with (at_builtin; go_must (refine wpList_append_lies _ rfl _ _ 38 rfl N 92 i3 _ 2 32 Try.underlying38 hi3 hz3 hz31 hz32 rfl (by omega) ve n _ (by rfl) oA ⟨w.heap.size, 0, none⟩ 1 1 [.int .i64 dst, .slice aa na ca] (by rfl) (by rfl) ?c1 ?c2 (by omega) ?c3 ?c4 ?c5 (w.heap.size + 1) ?c6 ?_))
  rotate_left
  any_goals (first | (exact newsG rfl) | rfl | (show Value.oneCell' _ = true; simp [Value.oneCell']) | (intro u hu; simp at hu; rcases hu with rfl | rfl <;> rfl) | (unfold maxLen; omega) | omega | (simp; omega) | (simp; rfl) | (simp; done))
  intro g cap wb hown hgrow hat hgl'
  have e2 := HNA.out
  subst e2
  have e3 := HLN.out
  subst e3
  have e4 := HVE.out
  subst e4
  have hP := HS.out.pushE (j := src) (x := ⟨dst, args⟩) (va := .slice aa args.length ca) hs ((Below.refl _ _).alloc (Nat.le_refl _) (.cells #[.int .i64 dst, .slice aa args.length ca] 92)) hgrow L HL.out.1 HL.out.2 hown (by simpa using hat) HA.out
  have HP : Hid (MaO N (upK κ g (7 + 2 * src)) (wb.setCell ⟨gb, src * 3 + 2, none⟩ (.slice (some ⟨g, 0, none⟩) (L.length + 1) cap)) P (edgeM s src dst args) ∧ Only MR κ (upK κ g (7 + 2 * src)) w (wb.setCell ⟨gb, src * 3 + 2, none⟩ (.slice (some ⟨g, 0, none⟩) (L.length + 1) cap))) := ⟨⟨_, _, _, _, _, hP.1⟩, hP.2.mono fun r hr => by unfold MR; omega⟩
  have LP := old_cell gb
  have lP' : gb < (w.alloc (.cells #[.int .i64 dst, .slice aa args.length ca] 92)).heap.size := by simp; omega
  have o1' := (hgrow.cell_far ⟨gb, src * 3 + 2, none⟩ lP' nB).trans ((LP _ _ _ hgl).trans q2)
  have oz' := (hgrow.frozen_far ⟨gb, src * 3 + 2, none⟩ lP' nB).trans ((frozen?_alloc_cells _ _ _ _).trans qz)
  clear hP hown hgrow hat hgl' oA q2 qz LP
  go_wp2
  go_end0
  exact ⟨rfl, _, HP.out.1, HP.out.2⟩
end Go.Proofs.Ytglfpnnfcpnmoaa
