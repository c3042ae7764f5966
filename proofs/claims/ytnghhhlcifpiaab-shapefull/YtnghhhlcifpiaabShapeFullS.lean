/-
  The walk through 'ShapeFull': it answers true for all numbers, and writes to nothing that was there.
-/
import Derived.Test.YtnghhhlcifpiaabOwn
import Derived.Deep.OwnRows
namespace Go.Proofs.Ytnghhhlcifpiaab
open Go.RowKit
set_option linter.unusedVariables false

def opl (k : Nat) : List Opr := (List.range k).map fun i : Nat => ⟨2, (i : Int), true, 2, 0⟩
def spl (k : Nat) : List Rg := (List.range k).map fun i : Nat => ⟨0, (i : Int)⟩
def fullF (k s : Nat) : Fn := ⟨List.replicate k 0, [⟨[], [⟨0, opl k, spl s⟩], []⟩]⟩
set_option maxRecDepth 100000 in
theorem fullF_ok : ∀ k, k < 7 → ∀ m : Nat, m < 11 → 2 ≤ m → ∀ s, s < m + 1 → shapeErr (fullF k s) (m : Int) (m : Int) = if k + s < m then 0 else 8 := by
  decide +kernel
theorem rep_snoc (i : Nat) : (List.replicate (i + 1) 0).flatMap cI = (List.replicate i 0).flatMap cI ++ [.int .i64 0] := by rw [List.replicate_succ', List.flatMap_append]; rfl
theorem opl_snoc (i : Nat) : (opl (i + 1)).flatMap cO = (opl i).flatMap cO ++ [.int .i64 2, .int .i64 i, .bool true, .int .i64 2, .int .i64 0] := by rw [opl, List.range_succ, List.map_append, List.flatMap_append]; rfl
theorem spl_snoc (i : Nat) : (spl (i + 1)).flatMap cR = (spl i).flatMap cR ++ [.int .i64 0, .int .i64 i] := by rw [spl, List.range_succ, List.map_append, List.flatMap_append]; rfl

def apartV (v v' : Value) : Prop := ∀ g, v.ownBlock = some g → v'.ownBlock ≠ some g
def FullSt (M : Nat) (mv : Int) (vv vo vs : Value) (i j s : Nat) (wr : World) : Prop :=
  wr.rowIs M 24 2 (fun _ => .int .i64 mv) ∧ wr.rowIs (M + 1) 30 3 (fun q => if q = 0 then .int .i64 0 else if q = 1 then vo else vs) ∧ wr.rowIs (M + 1 + 1) 34 2 (fun q => if q = 0 then vv else .slice none 0 0) ∧
    wr.ownsRow (M + 1 + 1 + 1) 3 1 vv i ((List.replicate i 0).flatMap cI) ∧ wr.ownsRow (M + 1 + 1 + 1) 36 5 vo j ((opl j).flatMap cO) ∧ wr.ownsRow (M + 1 + 1 + 1) 38 2 vs s ((spl s).flatMap cR) ∧ apartV vv vo ∧ apartV vv vs ∧ apartV vo vs
theorem fullSt0 (w1 : World) (m : Int) : FullSt w1.heap.size m (.slice none 0 0) (.slice none 0 0) (.slice none 0 0) 0 0 0 (((w1.alloc (.cells #[.int .i64 m, .int .i64 m] 24)).alloc (.cells #[.int .i64 0, .slice none 0 0, .slice none 0 0] 30)).alloc (.cells #[.slice none 0 0, .slice none 0 0] 34)) := by
  obtain ⟨V1, hV1⟩ : ∃ V1, V1 = w1.alloc (.cells #[.int .i64 m, .int .i64 m] 24) := ⟨_, rfl⟩
  have z1 : V1.heap.size = w1.heap.size + 1 := by rw [hV1]; simp
  have r0 : V1.rowIs w1.heap.size 24 2 (fun _ => .int .i64 m) := by
    rw [hV1]; exact World.rowIs_alloc _ _ _ _ (fun i hi => by match i, hi with | 0, _ => rfl | 1, _ => rfl)
  rw [← hV1]
  obtain ⟨V2, hV2⟩ : ∃ V2, V2 = V1.alloc (.cells #[.int .i64 0, .slice none 0 0, .slice none 0 0] 30) := ⟨_, rfl⟩
  have z2 : V2.heap.size = w1.heap.size + 1 + 1 := by rw [hV2]; simp [z1]
  have r1 : V2.rowIs (w1.heap.size + 1) 30 3 (fun q => if q = 0 then .int .i64 0 else if q = 1 then .slice none 0 0 else .slice none 0 0) := by
    rw [hV2, ← z1]; exact World.rowIs_alloc _ _ _ _ (fun i hi => by match i, hi with | 0, _ => rfl | 1, _ => rfl | 2, _ => rfl)
  have r0' : V2.rowIs w1.heap.size 24 2 (fun _ => .int .i64 m) := by rw [hV2]; exact r0.alloc _
  rw [← hV2]
  have r2 : (V2.alloc (.cells #[.slice none 0 0, .slice none 0 0] 34)).rowIs (w1.heap.size + 1 + 1) 34 2 (fun q => if q = 0 then .slice none 0 0 else .slice none 0 0) := by
    rw [← z2]; exact World.rowIs_alloc _ _ _ _ (fun i hi => by match i, hi with | 0, _ => rfl | 1, _ => rfl)
  exact ⟨r0'.alloc _, r1.alloc _, r2, World.ownsRow_nil _ _ _ _, World.ownsRow_nil _ _ _ _, World.ownsRow_nil _ _ _ _, fun g h => by simp [Value.ownBlock] at h, fun g h => by simp [Value.ownBlock] at h, fun g h => by simp [Value.ownBlock] at h⟩
theorem FullSt.vals {M : Nat} {mv : Int} {vv vo vs : Value} {i j s : Nat} {wr w1 : World} (hS : FullSt M mv vv vo vs i j s wr) (hM : M + 1 + 1 < wr.heap.size) {ob : Obj} {g cap : Nat} (hown : w1.ownsRow (M + 1 + 1 + 1) 3 1 (.slice (some ⟨g, 0, none⟩) (i + 1) cap) (i + 1) ((List.replicate i 0).flatMap cI ++ [.int .i64 0]))
    (hgrow : (wr.alloc ob).grownBy w1 vv.ownBlock) (hat : vv.ownBlock = some g ∨ g = wr.heap.size + 1) :
    w1.rowIs (M + 1 + 1) 34 2 (fun q => if q = 0 then vv else .slice none 0 0) ∧ w1.rowIs (M + 1) 30 3 (fun q => if q = 0 then .int .i64 0 else if q = 1 then vo else vs) ∧ FullSt M mv (.slice (some ⟨g, 0, none⟩) (i + 1) cap) vo vs (i + 1) j s (w1.setCell ⟨M + 1 + 1, 0, none⟩ (.slice (some ⟨g, 0, none⟩) (i + 1) cap)) := by
  obtain ⟨r0, r1, r2, o1, o2, o3, ap12, ap13, ap23⟩ := hS
  have kept : ∀ b, b < wr.heap.size → some b ≠ vv.ownBlock → w1.heap[b]? = wr.heap[b]? := fun b hb hne => (hgrow.block b (by simp; omega) hne).trans (Below.heap_alloc _ _ _ hb)
  have far : ∀ b, b < M + 1 + 1 + 1 → some b ≠ vv.ownBlock := fun b hb h => by have := own_base o1 h.symm; omega
  have k0 := r0.of_block (kept M (by omega) (far _ (by omega)))
  have k1 := r1.of_block (kept (M + 1) (by omega) (far _ (by omega)))
  have k2 := r2.of_block (kept (M + 1 + 1) (by omega) (far _ (by omega)))
  have nvo : w1.ownsRow (M + 1 + 1 + 1) 36 5 vo j ((opl j).flatMap cO) := own_keep o2 fun h hx hb hlt => kept h hlt fun e => (fun h hx hv => ap12 h hv hx) h hx e.symm
  have avo : ∀ h, vo.ownBlock = some h → h ≠ g := fun h hx e => by
    subst e
    rcases hat with hat | hat
    · exact (fun h hx hv => ap12 h hv hx) h hx hat
    · have := own_base o2 hx; omega
  have nvs : w1.ownsRow (M + 1 + 1 + 1) 38 2 vs s ((spl s).flatMap cR) := own_keep o3 fun h hx hb hlt => kept h hlt fun e => (fun h hx hv => ap13 h hv hx) h hx e.symm
  have avs : ∀ h, vs.ownBlock = some h → h ≠ g := fun h hx e => by
    subst e
    rcases hat with hat | hat
    · exact (fun h hx hv => ap13 h hv hx) h hx hat
    · have := own_base o3 hx; omega
  have nn : w1.ownsRow (M + 1 + 1 + 1) 3 1 (.slice (some ⟨g, 0, none⟩) (i + 1) cap) (i + 1) ((List.replicate (i + 1) 0).flatMap cI) := by rw [rep_snoc]; exact hown
  have hst : ∀ h, M + 1 + 1 + 1 ≤ h → (w1.setCell ⟨M + 1 + 1, 0, none⟩ (.slice (some ⟨g, 0, none⟩) (i + 1) cap)).heap[h]? = w1.heap[h]? := fun h hh => Below.heap_setCell _ _ _ _ (by show h ≠ M + 1 + 1; omega)
  exact ⟨k2, k1, (k0.setOther (by show M ≠ M + 1 + 1; omega) _), (k1.setOther (by show M + 1 ≠ M + 1 + 1; omega) _), ((k2.set 0 _).congr fun q hq => by match q, hq with | 0, _ => rfl | 1, _ => rfl), own_keep nn fun h _ hb _ => hst h hb, own_keep nvo fun h _ hb _ => hst h hb, own_keep nvs fun h _ hb _ => hst h hb, (fun h hx => by simp [Value.ownBlock] at hx; intro hy; exact avo h hy hx.symm), (fun h hx => by simp [Value.ownBlock] at hx; intro hy; exact avs h hy hx.symm), ap23⟩
theorem FullSt.oprs {M : Nat} {mv : Int} {vv vo vs : Value} {i j s : Nat} {wr w1 : World} (hS : FullSt M mv vv vo vs i j s wr) (hM : M + 1 + 1 < wr.heap.size) {ob : Obj} {g cap : Nat} (hown : w1.ownsRow (M + 1 + 1 + 1) 36 5 (.slice (some ⟨g, 0, none⟩) (j + 1) cap) (j + 1) ((opl j).flatMap cO ++ [.int .i64 2, .int .i64 j, .bool true, .int .i64 2, .int .i64 0]))
    (hgrow : (wr.alloc ob).grownBy w1 vo.ownBlock) (hat : vo.ownBlock = some g ∨ g = wr.heap.size + 1) :
    w1.rowIs (M + 1 + 1) 34 2 (fun q => if q = 0 then vv else .slice none 0 0) ∧ w1.rowIs (M + 1) 30 3 (fun q => if q = 0 then .int .i64 0 else if q = 1 then vo else vs) ∧ FullSt M mv vv (.slice (some ⟨g, 0, none⟩) (j + 1) cap) vs i (j + 1) s (w1.setCell ⟨M + 1, 1, none⟩ (.slice (some ⟨g, 0, none⟩) (j + 1) cap)) := by
  obtain ⟨r0, r1, r2, o1, o2, o3, ap12, ap13, ap23⟩ := hS
  have kept : ∀ b, b < wr.heap.size → some b ≠ vo.ownBlock → w1.heap[b]? = wr.heap[b]? := fun b hb hne => (hgrow.block b (by simp; omega) hne).trans (Below.heap_alloc _ _ _ hb)
  have far : ∀ b, b < M + 1 + 1 + 1 → some b ≠ vo.ownBlock := fun b hb h => by have := own_base o2 h.symm; omega
  have k0 := r0.of_block (kept M (by omega) (far _ (by omega)))
  have k1 := r1.of_block (kept (M + 1) (by omega) (far _ (by omega)))
  have k2 := r2.of_block (kept (M + 1 + 1) (by omega) (far _ (by omega)))
  have nvv : w1.ownsRow (M + 1 + 1 + 1) 3 1 vv i ((List.replicate i 0).flatMap cI) := own_keep o1 fun h hx hb hlt => kept h hlt fun e => (fun h hx hv => ap12 h hx hv) h hx e.symm
  have avv : ∀ h, vv.ownBlock = some h → h ≠ g := fun h hx e => by
    subst e
    rcases hat with hat | hat
    · exact (fun h hx hv => ap12 h hx hv) h hx hat
    · have := own_base o1 hx; omega
  have nvs : w1.ownsRow (M + 1 + 1 + 1) 38 2 vs s ((spl s).flatMap cR) := own_keep o3 fun h hx hb hlt => kept h hlt fun e => (fun h hx hv => ap23 h hv hx) h hx e.symm
  have avs : ∀ h, vs.ownBlock = some h → h ≠ g := fun h hx e => by
    subst e
    rcases hat with hat | hat
    · exact (fun h hx hv => ap23 h hv hx) h hx hat
    · have := own_base o3 hx; omega
  have nn : w1.ownsRow (M + 1 + 1 + 1) 36 5 (.slice (some ⟨g, 0, none⟩) (j + 1) cap) (j + 1) ((opl (j + 1)).flatMap cO) := by rw [opl_snoc]; exact hown
  have hst : ∀ h, M + 1 + 1 + 1 ≤ h → (w1.setCell ⟨M + 1, 1, none⟩ (.slice (some ⟨g, 0, none⟩) (j + 1) cap)).heap[h]? = w1.heap[h]? := fun h hh => Below.heap_setCell _ _ _ _ (by show h ≠ M + 1; omega)
  exact ⟨k2, k1, (k0.setOther (by show M ≠ M + 1; omega) _), ((k1.set 1 _).congr fun q hq => by match q, hq with | 0, _ => rfl | 1, _ => rfl | 2, _ => rfl), (k2.setOther (by show M + 1 + 1 ≠ M + 1; omega) _), own_keep nvv fun h _ hb _ => hst h hb, own_keep nn fun h _ hb _ => hst h hb, own_keep nvs fun h _ hb _ => hst h hb, (fun h hx => by simp [Value.ownBlock]; intro e; exact avv h hx e.symm), ap13, (fun h hx => by simp [Value.ownBlock] at hx; intro hy; exact avs h hy hx.symm)⟩
theorem FullSt.spls {M : Nat} {mv : Int} {vv vo vs : Value} {i j s : Nat} {wr w1 : World} (hS : FullSt M mv vv vo vs i j s wr) (hM : M + 1 + 1 < wr.heap.size) {ob : Obj} {g cap : Nat} (hown : w1.ownsRow (M + 1 + 1 + 1) 38 2 (.slice (some ⟨g, 0, none⟩) (s + 1) cap) (s + 1) ((spl s).flatMap cR ++ [.int .i64 0, .int .i64 s]))
    (hgrow : (wr.alloc ob).grownBy w1 vs.ownBlock) (hat : vs.ownBlock = some g ∨ g = wr.heap.size + 1) :
    w1.rowIs (M + 1 + 1) 34 2 (fun q => if q = 0 then vv else .slice none 0 0) ∧ w1.rowIs (M + 1) 30 3 (fun q => if q = 0 then .int .i64 0 else if q = 1 then vo else vs) ∧ FullSt M mv vv vo (.slice (some ⟨g, 0, none⟩) (s + 1) cap) i j (s + 1) (w1.setCell ⟨M + 1, 2, none⟩ (.slice (some ⟨g, 0, none⟩) (s + 1) cap)) := by
  obtain ⟨r0, r1, r2, o1, o2, o3, ap12, ap13, ap23⟩ := hS
  have kept : ∀ b, b < wr.heap.size → some b ≠ vs.ownBlock → w1.heap[b]? = wr.heap[b]? := fun b hb hne => (hgrow.block b (by simp; omega) hne).trans (Below.heap_alloc _ _ _ hb)
  have far : ∀ b, b < M + 1 + 1 + 1 → some b ≠ vs.ownBlock := fun b hb h => by have := own_base o3 h.symm; omega
  have k0 := r0.of_block (kept M (by omega) (far _ (by omega)))
  have k1 := r1.of_block (kept (M + 1) (by omega) (far _ (by omega)))
  have k2 := r2.of_block (kept (M + 1 + 1) (by omega) (far _ (by omega)))
  have nvv : w1.ownsRow (M + 1 + 1 + 1) 3 1 vv i ((List.replicate i 0).flatMap cI) := own_keep o1 fun h hx hb hlt => kept h hlt fun e => (fun h hx hv => ap13 h hx hv) h hx e.symm
  have avv : ∀ h, vv.ownBlock = some h → h ≠ g := fun h hx e => by
    subst e
    rcases hat with hat | hat
    · exact (fun h hx hv => ap13 h hx hv) h hx hat
    · have := own_base o1 hx; omega
  have nvo : w1.ownsRow (M + 1 + 1 + 1) 36 5 vo j ((opl j).flatMap cO) := own_keep o2 fun h hx hb hlt => kept h hlt fun e => (fun h hx hv => ap23 h hx hv) h hx e.symm
  have avo : ∀ h, vo.ownBlock = some h → h ≠ g := fun h hx e => by
    subst e
    rcases hat with hat | hat
    · exact (fun h hx hv => ap23 h hx hv) h hx hat
    · have := own_base o2 hx; omega
  have nn : w1.ownsRow (M + 1 + 1 + 1) 38 2 (.slice (some ⟨g, 0, none⟩) (s + 1) cap) (s + 1) ((spl (s + 1)).flatMap cR) := by rw [spl_snoc]; exact hown
  have hst : ∀ h, M + 1 + 1 + 1 ≤ h → (w1.setCell ⟨M + 1, 2, none⟩ (.slice (some ⟨g, 0, none⟩) (s + 1) cap)).heap[h]? = w1.heap[h]? := fun h hh => Below.heap_setCell _ _ _ _ (by show h ≠ M + 1; omega)
  exact ⟨k2, k1, (k0.setOther (by show M ≠ M + 1; omega) _), ((k1.set 2 _).congr fun q hq => by match q, hq with | 0, _ => rfl | 1, _ => rfl | 2, _ => rfl), (k2.setOther (by show M + 1 + 1 ≠ M + 1; omega) _), own_keep nvv fun h _ hb _ => hst h hb, own_keep nvo fun h _ hb _ => hst h hb, own_keep nn fun h _ hb _ => hst h hb, ap12, (fun h hx => by simp [Value.ownBlock]; intro e; exact avv h hx e.symm), (fun h hx => by simp [Value.ownBlock]; intro e; exact avo h hx e.symm)⟩

theorem info3 : (Try.prog.info? 3).map (fun i => (i.zero, i.size, i.bytes)) = some (some (.int .i64 0), 1, 8) := by kernel_rfl
theorem infoO : (Try.prog.info? 36).map (fun i => (i.zero, i.size, i.bytes)) = some (some (.agg #[.int .i64 0, .int .i64 0, .bool false, .int .i64 0, .int .i64 0]), 5, 40) := by kernel_rfl
theorem infoR : (Try.prog.info? 38).map (fun i => (i.zero, i.size, i.bytes)) = some (some (.agg #[.int .i64 0, .int .i64 0]), 2, 16) := by kernel_rfl
end Go.Proofs.Ytnghhhlcifpiaab
