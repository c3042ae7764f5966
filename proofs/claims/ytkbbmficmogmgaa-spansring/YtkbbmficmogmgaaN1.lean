/-
  The statements' own 'def', 'use' and 'op'; and how far 'line' has come: what lies where, and that it is kept.
  What the texts over 'ring' stand on, in seats without 'line' (laid under the name LineW).
  'big', and rows of one's own; for seats without 'line' (laid under the name Line2).
-/
import Derived.Test.YtkbbmficmogmgaaA4
import Derived.Deep.OwnRows
import Derived.Test.YtkbbmficmogmgaaA5
import Derived.Deep.DeepCutAuto
import Derived.Deep.CutBlock
namespace Go.Proofs.Ytkbbmficmogmgaa
open Go.RowKit
set_option linter.unusedVariables false

theorem def_any (v : Int) (w : World) :
    Calls Try.prog 40 #[.int .i64 v] w fun e w' => e = .returned (.agg #[.int .i64 2, .int .i64 v, .bool true, .int .i64 1, .int .i64 0]) ∧ w' = w.alloc (.cells #[.int .i64 2, .int .i64 v, .bool true, .int .i64 1, .int .i64 0] 44) := by
  go_enter Try.func40, Try.ntmps40
  go_wp2
  exact bodyPost_ret (v := .agg #[.int .i64 2, .int .i64 v, .bool true, .int .i64 1, .int .i64 0]) (by simp [results, Try.results40, go_sem]) rfl ⟨rfl, rfl⟩
theorem use_any (v : Int) (w : World) :
    Calls Try.prog 41 #[.int .i64 v] w fun e w' => e = .returned (.agg #[.int .i64 1, .int .i64 v, .bool false, .int .i64 1, .int .i64 0]) ∧ w' = w.alloc (.cells #[.int .i64 1, .int .i64 v, .bool false, .int .i64 1, .int .i64 0] 44) := by
  go_enter Try.func41, Try.ntmps41
  go_wp2
  exact bodyPost_ret (v := .agg #[.int .i64 1, .int .i64 v, .bool false, .int .i64 1, .int .i64 0]) (by simp [results, Try.results41, go_sem]) rfl ⟨rfl, rfl⟩
theorem op_any (n : Int) (b k c : Nat) (w : World) :
    Calls Try.prog 39 #[.int .i64 n, .slice (some ⟨b, 0, none⟩) k c] w fun e w' => e = .returned (.agg #[.int .i64 n, .slice (some ⟨b, 0, none⟩) k c, .slice none 0 0]) ∧ w' = w.alloc (.cells #[.int .i64 n, .slice (some ⟨b, 0, none⟩) k c, .slice none 0 0] 38) := by
  go_enter Try.func39, Try.ntmps39
  go_wp2
  exact bodyPost_ret (v := .agg #[.int .i64 n, .slice (some ⟨b, 0, none⟩) k c, .slice none 0 0]) (by simp [results, Try.results39, go_sem]) rfl ⟨rfl, rfl⟩

/-- The operands of line's instruction number k. -/
def lnO (k : Nat) : List Opr := if k = 0 then [⟨2, 0, true, 1, 0⟩] else [⟨1, (k : Int) - 1, false, 1, 0⟩, ⟨2, k, true, 1, 0⟩]
def lnI (k : Nat) : Ins := ⟨((k % 256 : Nat) : Int), lnO k, []⟩
def lineF (n : Nat) : Fn := ⟨List.replicate n 0, [⟨[], (List.range n).map lnI, []⟩]⟩
def lnX (o : Nat) (k : Nat) : List Value := [.int .i64 ((k % 256 : Nat) : Int), .slice (some ⟨o, 0, none⟩) (lnO k).length (lnO k).length, .slice none 0 0]
def lnXs (ob : Nat → Nat) (i : Nat) : List Value := (List.range i).flatMap fun k => lnX (ob k) k
theorem lnXs_snoc (ob : Nat → Nat) (i o : Nat) : lnXs (fun k => if k = i then o else ob k) (i + 1) = lnXs ob i ++ lnX o i := by
  unfold lnXs
  rw [List.range_succ, List.flatMap_append]
  congr 1
  · simp only [List.flatMap_def]
    congr 1
    refine List.map_congr_left fun k hk => ?_
    have : k < i := List.mem_range.1 hk
    rw [if_neg (by omega)]
  · simp [lnX]
theorem rep_snoc0 (i : Nat) : (List.replicate (i + 1) (0 : Int)).flatMap cI = (List.replicate i 0).flatMap cI ++ [.int .i64 0] := by rw [List.replicate_succ', List.flatMap_append]; rfl

def apartW (v v' : Value) : Prop := ∀ g, v.ownBlock = some g → v'.ownBlock ≠ some g
/-- The operands' own blocks. -/
structure ObOk (wr : World) (M i : Nat) (vv vi : Value) (ob : Nat → Nat) (k : Nat) : Prop where
  base : M + 1 + 1 + 1 ≤ ob k
  lt : ob k < wr.heap.size
  nv : vv.ownBlock ≠ some (ob k)
  ni : vi.ownBlock ≠ some (ob k)
  blk : wr.heap[ob k]? = some (.cells ((lnO k).flatMap cO).toArray 44)
structure LineSt (M nv ni : Nat) (vv vi : Value) (ob : Nat → Nat) (wr : World) : Prop where
  r1 : wr.rowIs (M + 1) 42 3 (fun q => if q = 1 then vi else .slice none 0 0)
  r2 : wr.rowIs (M + 1 + 1) 30 2 (fun q => if q = 0 then vv else .slice (some ⟨M + 1, 0, none⟩) 1 1)
  ov : wr.ownsRow (M + 1 + 1 + 1) 3 1 vv nv ((List.replicate nv (0 : Int)).flatMap cI)
  oi : wr.ownsRow (M + 1 + 1 + 1) 38 3 vi ni (lnXs ob ni)
  ap : apartW vv vi
  obs : ∀ k, k < ni → ObOk wr M ni vv vi ob k
  inj : ∀ j k, j < ni → k < ni → ob j = ob k → j = k

theorem LineSt.below {M nv ni : Nat} {vv vi : Value} {ob : Nat → Nat} {wr w' : World} (h : LineSt M nv ni vv vi ob wr) (hb : Below wr.heap.size wr w') : LineSt M nv ni vv vi ob w' := by
  have kept := hb.block
  refine ⟨h.r1.of_block (kept _ h.r1.lt), h.r2.of_block (kept _ h.r2.lt), own_keep h.ov fun g _ _ hl => kept g hl, own_keep h.oi fun g _ _ hl => kept g hl, h.ap, fun k hk => ?_, h.inj⟩
  have o := h.obs k hk
  exact ⟨o.base, Nat.lt_of_lt_of_le o.lt hb.size, o.nv, o.ni, (kept _ o.lt).trans o.blk⟩

theorem lineSt0 (w : World) : LineSt w.heap.size 0 0 (.slice none 0 0) (.slice none 0 0) (fun _ => 0) (((w.alloc (.cells #[.slice none 0 0, .slice none 0 0] 30)).alloc (.cells #[.slice none 0 0, .slice none 0 0, .slice none 0 0] 42)).alloc (.cells #[.slice none 0 0, .slice (some ⟨w.heap.size + 1, 0, none⟩) 1 1] 30)) := by
  obtain ⟨V1, hV1⟩ : ∃ V1, V1 = w.alloc (.cells #[.slice none 0 0, .slice none 0 0] 30) := ⟨_, rfl⟩
  have z1 : V1.heap.size = w.heap.size + 1 := by rw [hV1]; simp
  rw [← hV1]
  obtain ⟨V2, hV2⟩ : ∃ V2, V2 = V1.alloc (.cells #[.slice none 0 0, .slice none 0 0, .slice none 0 0] 42) := ⟨_, rfl⟩
  have z2 : V2.heap.size = w.heap.size + 1 + 1 := by rw [hV2]; simp [z1]
  have r1 : V2.rowIs (w.heap.size + 1) 42 3 (fun q => if q = 1 then .slice none 0 0 else .slice none 0 0) := by
    rw [hV2, ← z1]; exact World.rowIs_alloc _ _ _ _ (fun i hi => by match i, hi with | 0, _ => rfl | 1, _ => rfl | 2, _ => rfl)
  rw [← hV2]
  have r2 : (V2.alloc (.cells #[.slice none 0 0, .slice (some ⟨w.heap.size + 1, 0, none⟩) 1 1] 30)).rowIs (w.heap.size + 1 + 1) 30 2 (fun q => if q = 0 then .slice none 0 0 else .slice (some ⟨w.heap.size + 1, 0, none⟩) 1 1) := by
    rw [← z2]; exact World.rowIs_alloc _ _ _ _ (fun i hi => by match i, hi with | 0, _ => rfl | 1, _ => rfl)
  exact ⟨r1.alloc _, r2, World.ownsRow_nil _ _ _ _, World.ownsRow_nil _ _ _ _, fun g h => by simp [Value.ownBlock] at h, fun k hk => absurd hk (by omega), fun j k hj => absurd hj (by omega)⟩

/-- A write to a block ahead of all that. -/
theorem LineSt.after {M nv ni : Nat} {vv vi : Value} {ob : Nat → Nat} {wr w' : World} (h : LineSt M nv ni vv vi ob wr) (B : Nat) (hB : B < M + 1) (hB' : B < wr.heap.size) (hz : wr.heap.size ≤ w'.heap.size) (hk : ∀ b, b ≠ B → w'.heap[b]? = wr.heap[b]?) : LineSt M nv ni vv vi ob w' := by
  refine ⟨h.r1.of_block (hk _ (by omega)), h.r2.of_block (hk _ (by omega)), own_keep h.ov fun g _ hb _ => hk g (by omega), own_keep h.oi fun g _ hb _ => hk g (by omega), h.ap, fun k hk' => ?_, h.inj⟩
  have o := h.obs k hk'
  exact ⟨o.base, Nat.lt_of_lt_of_le o.lt hz, o.nv, o.ni, (hk _ (by have := o.base; omega)).trans o.blk⟩

/-- One value more. -/
theorem LineSt.vals {M nv ni : Nat} {vv vi : Value} {ob : Nat → Nat} {wr w1 : World} (h : LineSt M nv ni vv vi ob wr) {o : Obj} {g cap : Nat}
    (hown : w1.ownsRow (M + 1 + 1 + 1) 3 1 (.slice (some ⟨g, 0, none⟩) (nv + 1) cap) (nv + 1) ((List.replicate nv (0 : Int)).flatMap cI ++ [.int .i64 0]))
    (hgrow : (wr.alloc o).grownBy w1 vv.ownBlock) (hat : vv.ownBlock = some g ∨ g = wr.heap.size + 1) :
    w1.rowIs (M + 1 + 1) 30 2 (fun q => if q = 0 then vv else .slice (some ⟨M + 1, 0, none⟩) 1 1) ∧ LineSt M (nv + 1) ni (.slice (some ⟨g, 0, none⟩) (nv + 1) cap) vi ob (w1.setCell ⟨M + 1 + 1, 0, none⟩ (.slice (some ⟨g, 0, none⟩) (nv + 1) cap)) := by
  have kept : ∀ b, b < wr.heap.size → some b ≠ vv.ownBlock → w1.heap[b]? = wr.heap[b]? := fun b hb hne => (hgrow.block b (by simp; omega) hne).trans (Below.heap_alloc _ _ _ hb)
  have far : ∀ b, b < M + 1 + 1 + 1 → some b ≠ vv.ownBlock := fun b hb e => by have := own_base h.ov e.symm; omega
  have hz := hgrow.size
  simp at hz
  have k1 := h.r1.of_block (kept (M + 1) h.r1.lt (far _ (by omega)))
  have k2 := h.r2.of_block (kept (M + 1 + 1) h.r2.lt (far _ (by omega)))
  have ni' : w1.ownsRow (M + 1 + 1 + 1) 38 3 vi ni (lnXs ob ni) := own_keep h.oi fun b hx hb hlt => kept b hlt fun e => h.ap b e.symm hx
  have avi : ∀ b, vi.ownBlock = some b → b ≠ g := fun b hx e => by
    subst e
    rcases hat with hat | hat
    · exact h.ap b hat hx
    · have := own_base h.oi hx; omega
  have nn : w1.ownsRow (M + 1 + 1 + 1) 3 1 (.slice (some ⟨g, 0, none⟩) (nv + 1) cap) (nv + 1) ((List.replicate (nv + 1) (0 : Int)).flatMap cI) := by rw [rep_snoc0]; exact hown
  have hst : ∀ b, M + 1 + 1 + 1 ≤ b → (w1.setCell ⟨M + 1 + 1, 0, none⟩ (.slice (some ⟨g, 0, none⟩) (nv + 1) cap)).heap[b]? = w1.heap[b]? := fun b hh => Below.heap_setCell _ _ _ _ (by show b ≠ M + 1 + 1; omega)
  refine ⟨k2, k1.setOther (by show M + 1 ≠ M + 1 + 1; omega) _, (k2.set 0 _).congr fun q hq => by match q, hq with | 0, _ => rfl | 1, _ => rfl, own_keep nn fun b _ hb _ => hst b hb, own_keep ni' fun b _ hb _ => hst b hb, (fun b hx => by simp [Value.ownBlock] at hx; intro hy; exact avi b hy hx.symm), fun k hk => ?_, h.inj⟩
  have o := h.obs k hk
  refine ⟨o.base, by have := o.lt; simp; omega, ?_, o.ni, (hst _ o.base).trans ((kept _ o.lt (Ne.symm o.nv)).trans o.blk)⟩
  simp [Value.ownBlock]
  intro e
  rcases hat with hat | hat
  · exact o.nv (by rw [hat, e])
  · have := o.lt; omega

/-- One instruction more. -/
theorem LineSt.instr {M nv ni o : Nat} {vv vi : Value} {ob : Nat → Nat} {wr wa w1 : World} (h : LineSt M nv ni vv vi ob wr) (ho : M + 1 + 1 + 1 ≤ o) (hol : o < wr.heap.size) (hov : vv.ownBlock ≠ some o) (hoi : vi.ownBlock ≠ some o) (hob : ∀ k, k < ni → ob k ≠ o) (hoc : wr.heap[o]? = some (.cells ((lnO ni).flatMap cO).toArray 44))
    {g cap : Nat} (hown : w1.ownsRow (M + 1 + 1 + 1) 38 3 (.slice (some ⟨g, 0, none⟩) (ni + 1) cap) (ni + 1) (lnXs ob ni ++ lnX o ni))
    (hwa : Below wr.heap.size wr wa) (hgrow : wa.grownBy w1 vi.ownBlock) (hat : vi.ownBlock = some g ∨ wr.heap.size ≤ g) :
    LineSt M nv (ni + 1) vv (.slice (some ⟨g, 0, none⟩) (ni + 1) cap) (fun k => if k = ni then o else ob k) (w1.setCell ⟨M + 1, 1, none⟩ (.slice (some ⟨g, 0, none⟩) (ni + 1) cap)) := by
  have hza := hwa.size
  have hz := hgrow.size
  have kept : ∀ b, b < wr.heap.size → some b ≠ vi.ownBlock → w1.heap[b]? = wr.heap[b]? := fun b hb hne => (hgrow.block b (by omega) hne).trans (hwa.block b hb)
  have far : ∀ b, b < M + 1 + 1 + 1 → some b ≠ vi.ownBlock := fun b hb e => by have := own_base h.oi e.symm; omega
  have k1 := h.r1.of_block (kept (M + 1) h.r1.lt (far _ (by omega)))
  have k2 := h.r2.of_block (kept (M + 1 + 1) h.r2.lt (far _ (by omega)))
  have nv' : w1.ownsRow (M + 1 + 1 + 1) 3 1 vv nv ((List.replicate nv (0 : Int)).flatMap cI) := own_keep h.ov fun b hx hb hlt => kept b hlt fun e => h.ap b hx e.symm
  have avv : ∀ b, vv.ownBlock = some b → b ≠ g := fun b hx e => by
    subst e
    rcases hat with hat | hat
    · exact h.ap b hx hat
    · have := own_base h.ov hx; omega
  have nn : w1.ownsRow (M + 1 + 1 + 1) 38 3 (.slice (some ⟨g, 0, none⟩) (ni + 1) cap) (ni + 1) (lnXs (fun k => if k = ni then o else ob k) (ni + 1)) := by rw [lnXs_snoc]; exact hown
  have hst : ∀ b, M + 1 + 1 + 1 ≤ b → (w1.setCell ⟨M + 1, 1, none⟩ (.slice (some ⟨g, 0, none⟩) (ni + 1) cap)).heap[b]? = w1.heap[b]? := fun b hh => Below.heap_setCell _ _ _ _ (by show b ≠ M + 1; omega)
  have ong : ∀ b, b < wr.heap.size → vi.ownBlock ≠ some b → g ≠ b := fun b hb hne e => by
    rcases hat with hat | hat
    · exact hne (by rw [hat, e])
    · omega
  refine ⟨(k1.set 1 _).congr fun q hq => by match q, hq with | 0, _ => rfl | 1, _ => rfl | 2, _ => rfl, k2.setOther (by show M + 1 + 1 ≠ M + 1; omega) _, own_keep nv' fun b _ hb _ => hst b hb, own_keep nn fun b _ hb _ => hst b hb, (fun b hx => by simp [Value.ownBlock]; intro e; exact avv b hx e.symm), fun k hk => ?_, fun j k hj hk e => ?_⟩
  · by_cases hkn : k = ni
    · subst hkn
      exact ⟨by simpa using ho, by simp; omega, by simpa using hov, by simpa [Value.ownBlock] using ong o hol hoi, by simpa using (hst _ ho).trans ((kept _ hol (Ne.symm hoi)).trans hoc)⟩
    · have q := h.obs k (by omega)
      exact ⟨by simpa [hkn] using q.base, by have := q.lt; simp [hkn]; omega, by simpa [hkn] using q.nv, by simpa [hkn, Value.ownBlock] using ong _ q.lt q.ni, by simpa [hkn] using (hst _ q.base).trans ((kept _ q.lt (Ne.symm q.ni)).trans q.blk)⟩
  · by_cases hj' : j = ni <;> by_cases hk' : k = ni
    · omega
    · simp [hj', hk'] at e; exact absurd e.symm (hob k (by omega))
    · simp [hj', hk'] at e; exact absurd e (hob j (by omega))
    · simp [hj', hk'] at e; exact h.inj j k (by omega) (by omega) e

theorem infoI3 : (Try.prog.info? 3).map (fun i => (i.zero, i.size, i.bytes)) = some (some (.int .i64 0), 1, 8) := by kernel_rfl
theorem infoIn : (Try.prog.info? 38).map (fun i => (i.zero, i.size, i.bytes)) = some (some (.agg #[.int .i64 0, .slice none 0 0, .slice none 0 0]), 3, 56) := by kernel_rfl
end Go.Proofs.Ytkbbmficmogmgaa
namespace Go.Proofs.Ytkbbmficmogmgaa
open Go.RowKit
set_option linter.unusedVariables false

theorem newsL {w : World} {ob : Obj} {cs : Array Value} {t : Nat} (h : ob = .cells cs t) : ∀ j u, cs.toList[j]? = some u → (w.alloc ob).cell? ((⟨w.heap.size, 0, none⟩ : Addr).add j) = some u := by
  subst h
  exact World.news_of_block (heap_alloc_new w _)
theorem heap_atL {W : World} {o : Obj} {n : Nat} (h : n = W.heap.size) : (W.alloc o).heap[n]? = some o := by subst h; exact heap_alloc_new W o

theorem own_formL {w : World} {base e k n : Nat} {v : Value} {xs : List Value} (h : w.ownsRow base e k v n xs) : ∃ a cap, v = .slice a n cap := by
  rcases h.2 with ⟨rfl, rfl⟩ | ⟨g, cap, cur, rfl, _⟩
  · exact ⟨none, 0, rfl⟩
  · exact ⟨_, _, rfl⟩

end Go.Proofs.Ytkbbmficmogmgaa
namespace Go.Proofs.Ytkbbmficmogmgaa
open Go.RowKit
set_option linter.unusedVariables false

theorem own_rowL {w : World} {base e k n : Nat} {v : Value} {xs : List Value} (h : w.ownsRow base e k v n xs) (hn : 0 < n) : ∃ g cap, v = .slice (some ⟨g, 0, none⟩) n cap ∧ base ≤ g ∧ g < w.heap.size ∧ (∀ j (hj : j < xs.length), w.cell? ⟨g, j, none⟩ = some xs[j]) ∧ ∀ j, w.frozen? ⟨g, j, none⟩ = false := by
  obtain ⟨hlen, h⟩ := h
  rcases h with ⟨rfl, rfl⟩ | ⟨g, cap, cur, rfl, hb, hg, hnc, hc, hcs, htake⟩
  · omega
  · refine ⟨g, cap, rfl, hb, ?_, fun j hj => ?_, fun j => by simp [World.frozen?, hg]⟩
    · rcases Nat.lt_or_ge g w.heap.size with h1 | h1
      · exact h1
      · rw [Array.getElem?_eq_none h1] at hg; cases hg
    · have h1 : xs[j]? = some xs[j] := List.getElem?_eq_getElem hj
      obtain ⟨v, hv'⟩ : ∃ v, xs[j] = v := ⟨_, rfl⟩
      rw [hv'] at h1 ⊢
      rw [← htake, List.getElem?_take, if_pos (by omega)] at h1
      simp only [World.cell?, hg]
      simpa using h1
theorem blk_cellL {w : World} {b : Nat} {cs : Array Value} {t : Nat} (h : w.heap[b]? = some (.cells cs t)) (j : Nat) (hj : j < cs.size) : w.cell? ⟨b, j, none⟩ = some cs[j] := by
  simp [World.cell?, h, hj]
theorem blk_frozenL {w : World} {b : Nat} {cs : Array Value} {t : Nat} (h : w.heap[b]? = some (.cells cs t)) (j : Nat) : w.frozen? ⟨b, j, none⟩ = false := by
  simp [World.frozen?, h]

theorem big_any (w : World) :
    Calls Try.prog 23 #[] w fun e w' => e = .returned (.agg #[.int .i64 10, .int .i64 10]) ∧ Below w.heap.size w w' := by
  have pm : pickedOf 8 9 = 8 := by decide
  go_enter Try.func23, Try.ntmps23
  go_wp2_with fail
  refine (machine_any 8 8 _ (by omega) (by omega) (by omega) (by omega)).mono ?_
  rintro e w1 ⟨rfl, hb1⟩
  rw [pm]
  have c0 : w1.cell? ⟨w.heap.size, 0, none⟩ = some (.int .i64 0) := (hb1.cell (by simp)).trans (by go_simp)
  have c1 : w1.cell? ⟨w.heap.size, 1, none⟩ = some (.int .i64 0) := (hb1.cell (by simp)).trans (by go_simp)
  have z0 : w1.frozen? ⟨w.heap.size, 0, none⟩ = false := (hb1.frozen (by simp)).trans (by go_simp)
  have z1 : w1.frozen? ⟨w.heap.size, 1, none⟩ = false := (hb1.frozen (by simp)).trans (by go_simp)
  have hbw : Below w.heap.size w w1 := ((Below.refl _ _).alloc (Nat.le_refl _) _).trans (hb1.mono (by simp))
  obtain ⟨W, hW⟩ : ∃ W, W = (w1.setCell ⟨w.heap.size, 0, none⟩ (.int .i64 10)).setCell ⟨w.heap.size, 1, none⟩ (.int .i64 10) := ⟨_, rfl⟩
  have hbW : Below w.heap.size w W := by rw [hW]; exact (hbw.setCell (by simp) _).setCell (by simp) _
  have d0 : W.cell? ⟨w.heap.size, 0, none⟩ = some (.int .i64 10) := by rw [hW]; go_simp
  have d1 : W.cell? ⟨w.heap.size, 1, none⟩ = some (.int .i64 10) := by rw [hW]; go_simp
  have HW : Hid (W = (w1.setCell ⟨w.heap.size, 0, none⟩ (.int .i64 10)).setCell ⟨w.heap.size, 1, none⟩ (.int .i64 10)) := hW
  clear hW
  go_wp2
  rw [← HW.out]
  exact bodyPost_ret (v := .agg #[.int .i64 10, .int .i64 10]) (by simp [results, Try.results23, go_sem, d0, d1]) rfl ⟨rfl, hbW⟩
end Go.Proofs.Ytkbbmficmogmgaa
